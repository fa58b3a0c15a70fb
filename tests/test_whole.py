"""Point 4: the promise of the whole, over all small numbers of guests."""

import unittest
from itertools import combinations, permutations, product

from elderinn.best import one_more, pairs, sent_away
from elderinn.crowds import crowd_in_first, crowd_sizes
from elderinn.inns import Inn
from elderinn.kept import kept
from elderinn.readings import read_guests, read_rooms
from elderinn.rooms import in_first, rooms, sizes
from elderinn.texts import show_guests, show_rooms
from tests.support import (forty_crowds, greatest_first, partitions, peaceful, rooms_by_age, small_crowds, upset_in,
                           written_out)

AGES = (-3, 0, 8, 2, -1)


def smalls(many, greatest):
    """All guests of so many ages, with each patience from 0 to the greatest."""
    return [list(zip(AGES, patiences)) for patiences in product(range(greatest + 1), repeat=many)]


class NoneIsFuller(unittest.TestCase):
    def assert_none_is_fuller(self, guests, arrangements):
        first = [in_first(guests, j) for j in range(len(guests) + 2)]
        reached = set()
        for told in arrangements:
            filled = greatest_first(told)
            for j, most in enumerate(first):
                self.assertLessEqual(sum(filled[:j]), most)
                if sum(filled[:j]) == most:
                    reached.add(j)
        self.assertEqual(reached, set(range(len(first))))

    def test_up_to_four_guests(self):
        for many in range(5):
            for guests in smalls(many, many + 1):
                self.assert_none_is_fuller(guests, peaceful(guests))

    def test_five_guests(self):
        ages = list(AGES)
        ways = [(told, {age: sum(other > age for other in room) for room in told for age in room})
                for told in partitions(ages)]
        for guests in smalls(5, 4):
            arrangements = [told for told, elders in ways
                            if all(elders[age] <= patience for age, patience in guests)]
            self.assert_none_is_fuller(guests, arrangements)

    def test_the_rooms_by_age_are_in_peace(self):
        for guests in smalls(5, 4):
            for room in rooms(guests):
                self.assertEqual(upset_in(dict(guests), room), [])


class WhatFollows(unittest.TestCase):
    def test_the_fewest_rooms_and_the_most_pairs(self):
        for guests in smalls(4, 4):
            told = [greatest_first(arrangement) for arrangement in peaceful(guests)]
            self.assertEqual(len(rooms(guests)), min(len(filled) for filled in told))
            self.assertEqual(pairs(guests), max(sum(n * (n - 1) // 2 for n in filled) for filled in told))

    def test_the_greatest_sum_of_worths_that_grow_ever_faster(self):
        worths = ((lambda n: n ** 2), (lambda n: 3 ** n - 1), (lambda n: max(0, n - 1)), (lambda n: max(0, n - 2)))
        for guests in smalls(4, 4):
            told = [greatest_first(arrangement) for arrangement in peaceful(guests)]
            for worth in worths:
                most = max(sum(worth(n) for n in filled) for filled in told)
                self.assertEqual(sum(worth(n) for n in sizes(guests)), most)

    def test_no_more_could_be_put_in_j_rooms_whoever_is_sent_away(self):
        for guests in smalls(4, 3):
            for j in range(5):
                most = max(many for many in range(5) for others in combinations(guests, many)
                           if any(len(told) <= j for told in peaceful(list(others))))
                self.assertEqual(in_first(guests, j), most)
                self.assertEqual(len(sent_away(guests, j)), 4 - most)


class OneGuestMore(unittest.TestCase):
    def test_one_room_one_fuller_and_no_other_one(self):
        for many in range(1, 6):
            for guests in smalls(many, min(many, 4)):
                self.assert_each_fills_one(guests)

    def assert_each_fills_one(self, guests):
        after = sizes(guests)
        for newcomer in guests:
            before = sizes([guest for guest in guests if guest != newcomer])
            before += [0] * (len(after) - len(before))
            fuller = [number for number, size in enumerate(after) if size != before[number]]
            self.assertEqual(len(fuller), 1)
            self.assertEqual(after[fuller[0]], before[fuller[0]] + 1)
            others = [guest for guest in guests if guest != newcomer]
            self.assertEqual(one_more(others, *newcomer), fuller[0])


def with_one_more(crowds, patience):
    """Each way to put one guest more into crowds: ahead of all, within each, behind each."""
    yield [(1, patience), *crowds]
    for number, (count, borne) in enumerate(crowds):
        for ahead in {1, count // 2, count - 1, count} - {0}:
            parts = [(ahead, borne), (1, patience), (count - ahead, borne)]
            yield crowds[:number] + [part for part in parts if part[0] > 0] + crowds[number + 1:]


class OneMoreInCrowds(unittest.TestCase):
    SMALLS = [crowds for many, most in ((0, 1), (1, 5), (2, 3), (3, 2)) for crowds in small_crowds(many, most)]

    def assert_one_room_one_fuller(self, before, after):
        """That in the first j live as many as ahead up to a room, and one more from it on."""
        rooms_asked = range(len(sizes(written_out(after))) + 2)
        more = [crowd_in_first(after, j) - crowd_in_first(before, j) for j in rooms_asked]
        room = more.index(1)
        self.assertEqual(more, [0] * room + [1] * (len(more) - room))

    def test_one_room_one_fuller_and_no_other_one(self):
        for crowds in self.SMALLS:
            for patience in range(4):
                for after in with_one_more(crowds, patience):
                    self.assert_one_room_one_fuller(crowds, after)

    def test_of_first_rooms_with_any_number_ahead(self):
        for crowds in self.SMALLS:
            for patience in range(4):
                for after in with_one_more(crowds, patience):
                    for n in range(8):
                        self.assertIn(kept(after, n) - kept(crowds, n), (0, 1))

    def test_of_crowds_of_any_size(self):
        crowds = forty_crowds(4)
        changes = [0]
        for _, many in crowd_sizes(crowds):
            changes.append(changes[-1] + many)
        asked = sorted({j + by for j in changes for by in (0, 1, 2)})
        before = [crowd_in_first(crowds, j) for j in asked]
        for number in (0, 17, 39):
            for patience in (0, 10 ** 15, 10 ** 30 - 1):
                count, borne = crowds[number]
                parts = [(1, borne), (1, patience), (count - 1, borne)]
                after = crowds[:number] + parts + crowds[number + 1:]
                more = [crowd_in_first(after, j) - many for j, many in zip(asked, before)]
                self.assertEqual(more, sorted(more))
                self.assertEqual((more[0], more[-1]), (0, 1))


class WrittenAndReadBack(unittest.TestCase):
    def test_guests_that_are_read_live_in_the_rooms_that_are_read(self):
        for guests in smalls(4, 3):
            told = read_guests(show_guests(guests))
            self.assertEqual(rooms(told), rooms(guests))
            self.assertEqual(read_rooms(show_rooms(rooms(told))), rooms_by_age(guests))


class WhoeverIsThere(unittest.TestCase):
    def test_whatever_the_order_of_coming(self):
        for guests in smalls(4, 3):
            for order in permutations(guests):
                inn = Inn()
                for age, patience in order:
                    inn.come(age, patience)
                self.assertEqual(inn.rooms(), rooms_by_age(guests))

    def test_whoever_goes_home(self):
        for guests in smalls(5, 3):
            for gone in guests:
                inn = Inn()
                for age, patience in guests:
                    inn.come(age, patience)
                inn.go(gone[0])
                self.assertEqual(inn.rooms(), rooms_by_age([guest for guest in guests if guest != gone]))


if __name__ == "__main__":
    unittest.main()
