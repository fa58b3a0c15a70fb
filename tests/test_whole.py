"""Point 4: the promise of the whole, over all small numbers of guests."""

import unittest
from itertools import combinations, permutations, product

from elderinn.best import one_more, pairs, sent_away
from elderinn.inns import Inn
from elderinn.rooms import in_first, rooms, sizes
from tests.support import greatest_first, partitions, peaceful, rooms_by_age, upset_in

AGES = (-3, 0, 8, 2, -1)


def smalls(many, greatest):
    """All guests of so many ages, with each patience from 0 to the greatest."""
    return [list(zip(AGES, patiences)) for patiences in product(range(greatest + 1), repeat=many)]


class NoneIsFuller(unittest.TestCase):
    def assert_none_is_fuller(self, guests, arrangements):
        first = [in_first(guests, j) for j in range(len(guests) + 2)]
        reached = set()
        for told in arrangements:
            filled = greatest_first(told)
            for j, most in enumerate(first):
                self.assertLessEqual(sum(filled[:j]), most)
                if sum(filled[:j]) == most:
                    reached.add(j)
        self.assertEqual(reached, set(range(len(first))))

    def test_up_to_four_guests(self):
        for many in range(5):
            for guests in smalls(many, many + 1):
                self.assert_none_is_fuller(guests, peaceful(guests))

    def test_five_guests(self):
        ages = list(AGES)
        ways = [(told, {age: sum(other > age for other in room) for room in told for age in room})
                for told in partitions(ages)]
        for guests in smalls(5, 4):
            arrangements = [told for told, elders in ways
                            if all(elders[age] <= patience for age, patience in guests)]
            self.assert_none_is_fuller(guests, arrangements)

    def test_the_rooms_by_age_are_in_peace(self):
        for guests in smalls(5, 4):
            for room in rooms(guests):
                self.assertEqual(upset_in(dict(guests), room), [])


class WhatFollows(unittest.TestCase):
    def test_the_fewest_rooms_and_the_most_pairs(self):
        for guests in smalls(4, 4):
            told = [greatest_first(arrangement) for arrangement in peaceful(guests)]
            self.assertEqual(len(rooms(guests)), min(len(filled) for filled in told))
            self.assertEqual(pairs(guests), max(sum(n * (n - 1) // 2 for n in filled) for filled in told))

    def test_the_greatest_sum_of_worths_that_grow_ever_faster(self):
        worths = ((lambda n: n ** 2), (lambda n: 3 ** n - 1), (lambda n: max(0, n - 1)), (lambda n: max(0, n - 2)))
        for guests in smalls(4, 4):
            told = [greatest_first(arrangement) for arrangement in peaceful(guests)]
            for worth in worths:
                most = max(sum(worth(n) for n in filled) for filled in told)
                self.assertEqual(sum(worth(n) for n in sizes(guests)), most)

    def test_no_more_could_be_put_in_j_rooms_whoever_is_sent_away(self):
        for guests in smalls(4, 3):
            for j in range(5):
                most = max(many for many in range(5) for others in combinations(guests, many)
                           if any(len(told) <= j for told in peaceful(list(others))))
                self.assertEqual(in_first(guests, j), most)
                self.assertEqual(len(sent_away(guests, j)), 4 - most)


class OneGuestMore(unittest.TestCase):
    def test_one_room_one_fuller_and_no_other_one(self):
        for many in range(1, 6):
            for guests in smalls(many, min(many, 4)):
                self.assert_each_fills_one(guests)

    def assert_each_fills_one(self, guests):
        after = sizes(guests)
        for newcomer in guests:
            before = sizes([guest for guest in guests if guest != newcomer])
            before += [0] * (len(after) - len(before))
            fuller = [number for number, size in enumerate(after) if size != before[number]]
            self.assertEqual(len(fuller), 1)
            self.assertEqual(after[fuller[0]], before[fuller[0]] + 1)
            others = [guest for guest in guests if guest != newcomer]
            self.assertEqual(one_more(others, *newcomer), fuller[0])


class WhoeverIsThere(unittest.TestCase):
    def test_whatever_the_order_of_coming(self):
        for guests in smalls(4, 3):
            for order in permutations(guests):
                inn = Inn()
                for age, patience in order:
                    inn.come(age, patience)
                self.assertEqual(inn.rooms(), rooms_by_age(guests))

    def test_whoever_goes_home(self):
        for guests in smalls(5, 3):
            for gone in guests:
                inn = Inn()
                for age, patience in guests:
                    inn.come(age, patience)
                inn.go(gone[0])
                self.assertEqual(inn.rooms(), rooms_by_age([guest for guest in guests if guest != gone]))


if __name__ == "__main__":
    unittest.main()
