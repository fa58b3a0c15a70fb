"""Points 11 to 13: sent away, as good as can be, one more."""

import unittest
from copy import deepcopy
from itertools import combinations, product

from elderinn.best import is_best, one_more, pairs, sent_away
from elderinn.errors import NoGuest, NoRoom, NoRooms
from elderinn.rooms import in_first, rooms, sizes
from tests.support import assert_refused, greatest_first, partitions, peaceful

FIVE = [(50, 0), (40, 1), (30, 0), (20, 2), (10, 1)]
HUGE = 10 ** 29


def smalls(many):
    """All guests of so many ages and of each patience that makes a difference, and one more."""
    return [list(enumerate(patiences)) for patiences in product(range(many + 1), repeat=many)]


class SentAway(unittest.TestCase):
    def test_ordinary(self):
        self.assertEqual(sent_away(FIVE, 0), [50, 40, 30, 20, 10])
        self.assertEqual(sent_away(FIVE, 1), [30, 10])
        self.assertEqual(sent_away(FIVE, 2), [])

    def test_from_the_eldest_on_over_several_rooms(self):
        guests = [(9, 0), (8, 0), (7, 0), (6, 0), (5, 1), (4, 1), (3, 1)]
        self.assertEqual(rooms(guests), [[9, 5], [8, 4], [7, 3], [6]])
        self.assertEqual(sent_away(guests, 2), [7, 6, 3])
        self.assertEqual(sent_away(guests, 1), [8, 7, 6, 4, 3])

    def test_no_guests(self):
        for j in (0, 1, 10 ** 40):
            self.assertEqual(sent_away([], j), [])

    def test_as_many_rooms_as_there_are_one_more_and_of_forty_figures(self):
        for j in (2, 3, 10 ** 40):
            self.assertEqual(sent_away(FIVE, j), [])

    def test_those_behind_the_first_rooms(self):
        for guests in smalls(4):
            for j in range(6):
                behind = [age for room in rooms(guests)[j:] for age in room]
                self.assertEqual(sent_away(guests, j), sorted(behind, reverse=True))

    def test_as_few_as_can_be(self):
        for guests in smalls(4):
            for j in range(5):
                gone = len(sent_away(guests, j))
                self.assertEqual(gone, fewest_away(guests, j))
                self.assertEqual(in_first(guests, j) + gone, 4)

    def test_the_others_can_live_there_in_peace(self):
        for guests in smalls(4):
            for j in range(5):
                away = sent_away(guests, j)
                others = [guest for guest in guests if guest[0] not in away]
                self.assertTrue(any(len(told) <= j for told in peaceful(others)))

    def test_refused(self):
        assert_refused(self, NoRooms, -1, sent_away, FIVE, -1)
        assert_refused(self, NoRooms, -10 ** 40, sent_away, [], -10 ** 40)
        assert_refused(self, NoGuest, 1, sent_away, [(5, 0), (5, 0)], 1)
        assert_refused(self, NoGuest, 0, sent_away, [(5, -1)], 0)

    def test_guests_are_refused_ahead_of_rooms(self):
        assert_refused(self, NoGuest, 0, sent_away, [(5, -1)], -1)

    def test_by_name(self):
        self.assertEqual(sent_away(guests=FIVE, j=1), [30, 10])
        assert_refused(self, NoRooms, -1, sent_away, j=-1, guests=FIVE)


def fewest_away(guests, j):
    """How many must go so that the others can live in j rooms in peace, by trying all."""
    for many in range(len(guests) + 1):
        for others in combinations(guests, len(guests) - many):
            if any(len(told) <= j for told in peaceful(list(others))):
                return many
    raise AssertionError("nobody left, and yet no peace")


class IsBest(unittest.TestCase):
    def test_ordinary(self):
        self.assertIs(is_best(FIVE, [[50, 40, 20], [30, 10]]), True)
        self.assertIs(is_best(FIVE, [[50, 40], [30, 20], [10]]), False)

    def test_other_rooms_of_the_same_sizes(self):
        self.assertIs(is_best([(3, 0), (2, 0), (1, 1)], [[3, 1], [2]]), True)
        self.assertIs(is_best([(3, 0), (2, 0), (1, 1)], [[3], [2, 1]]), True)

    def test_rooms_and_ages_in_any_order_and_empty_rooms(self):
        self.assertIs(is_best(FIVE, [[], [10, 30], [], [20, 50, 40], []]), True)

    def test_no_guests(self):
        self.assertIs(is_best([], []), True)
        self.assertIs(is_best([], [[], []]), True)

    def test_of_these_sizes_but_not_in_peace(self):
        self.assertIs(is_best(FIVE, [[50, 30, 20], [40, 10]]), False)

    def test_all_in_one_room_without_peace(self):
        self.assertIs(is_best(FIVE, [[50, 40, 30, 20, 10]]), False)

    def test_all_small_arrangements(self):
        for guests in smalls(4):
            good = [greatest_first(told) for told in peaceful(guests)]
            best = max(good)
            for arrangement in partitions([2, 0, 3, 1]):
                peace = sorted(map(sorted, arrangement)) in [
                    sorted(map(sorted, told)) for told in peaceful(guests)]
                expected = peace and greatest_first(arrangement) == best
                self.assertIs(is_best(guests, arrangement), expected)

    def test_refused(self):
        assert_refused(self, NoGuest, 1, is_best, [(5, 0), (4, -1)], [[5, 4]])
        assert_refused(self, NoRoom, 1, is_best, FIVE, [[50], [7]])
        assert_refused(self, NoRoom, 0, is_best, FIVE, [[50, 50]])
        assert_refused(self, NoRoom, 2, is_best, FIVE, [[50], [], [50]])
        assert_refused(self, NoRoom, None, is_best, FIVE, [[50, 40, 20], [30]])
        assert_refused(self, NoRoom, None, is_best, FIVE, [[50, 30]])

    def test_which_refusal_goes_first(self):
        assert_refused(self, NoGuest, 0, is_best, [(5, -1)], [[7]])
        assert_refused(self, NoRoom, 0, is_best, FIVE, [[7]])

    def test_by_name(self):
        self.assertIs(is_best(guests=FIVE, arrangement=[[50, 40, 20], [30, 10]]), True)
        assert_refused(self, NoRoom, None, is_best, arrangement=[], guests=FIVE)


class Pairs(unittest.TestCase):
    def test_ordinary(self):
        self.assertEqual(pairs(FIVE), 4)

    def test_edges(self):
        self.assertEqual(pairs([]), 0)
        self.assertEqual(pairs([(-HUGE, 3)]), 0)
        self.assertEqual(pairs([(1, 1), (0, 1)]), 1)
        self.assertEqual(pairs([(k, 0) for k in range(60)]), 0)
        self.assertEqual(pairs([(k, HUGE) for k in range(60)]), 1770)

    def test_counted_one_by_one(self):
        for guests in smalls(4):
            counted = [two for room in rooms(guests) for two in combinations(room, 2)]
            self.assertEqual(pairs(guests), len(counted))

    def test_the_most_that_can_be(self):
        for guests in smalls(4):
            most = max(sum(len(room) * (len(room) - 1) // 2 for room in told) for told in peaceful(guests))
            self.assertEqual(pairs(guests), most)

    def test_refused(self):
        assert_refused(self, NoGuest, 0, pairs, [(5, -1)])
        assert_refused(self, NoGuest, 2, pairs, [(5, 0), (4, 0), (5, 0)])

    def test_by_name_and_kind(self):
        self.assertEqual(pairs(guests=FIVE), 4)
        self.assertIs(type(pairs([])), int)


class OneMore(unittest.TestCase):
    def test_ordinary(self):
        self.assertEqual(one_more(FIVE, 45, 0), 2)
        self.assertEqual(one_more(FIVE, 15, 2), 2)
        self.assertEqual(one_more(FIVE, 5, 2), 1)
        self.assertEqual(one_more(FIVE, 5, 3), 0)

    def test_a_new_room(self):
        self.assertEqual(one_more([], 7, 0), 0)
        self.assertEqual(one_more([(5, 0)], 4, 0), 1)
        self.assertEqual(one_more([(k, 0) for k in range(60)], -1, 0), 60)

    def test_the_newcomer_may_live_elsewhere(self):
        # The new eldest lives in the first room, and yet the last one is the fuller.
        guests = [(3, 0), (2, 0)]
        self.assertEqual(rooms([*guests, (9, 0)])[0], [9])
        self.assertEqual(one_more(guests, 9, 0), 2)

    def test_huge_ages_and_patience(self):
        self.assertEqual(one_more([(HUGE, 0)], -HUGE, HUGE), 0)
        self.assertEqual(one_more([(-HUGE, HUGE)], HUGE, 0), 0)

    def test_one_room_one_fuller_and_no_other_one(self):
        for guests in smalls(4):
            for newcomer in range(4):
                others = guests[:newcomer] + guests[newcomer + 1:]
                expected = sizes(others) + [0]
                expected[one_more(others, *guests[newcomer])] += 1
                if expected[-1] == 0:
                    expected.pop()
                self.assertEqual(sizes(guests), expected)

    def test_refused(self):
        assert_refused(self, NoGuest, 1, one_more, [(5, 0), (5, 0)], 4, 0)
        assert_refused(self, NoGuest, (4, -1), one_more, [(5, 0)], 4, -1)
        assert_refused(self, NoGuest, (5, 3), one_more, [(5, 0)], 5, 3)
        assert_refused(self, NoGuest, (5, -HUGE), one_more, [(5, 0)], 5, -HUGE)
        assert_refused(self, NoGuest, (0, -1), one_more, [], 0, -1)

    def test_guests_are_refused_ahead_of_the_one_more(self):
        assert_refused(self, NoGuest, 0, one_more, [(5, -1)], 5, -1)

    def test_by_name(self):
        self.assertEqual(one_more(guests=FIVE, age=5, patience=3), 0)
        assert_refused(self, NoGuest, (50, 0), one_more, patience=0, age=50, guests=FIVE)


class TheAskersOwn(unittest.TestCase):
    def test_what_is_handed_in_stays_as_it_was(self):
        guests, arrangement = FIVE[::-1], [[20, 50, 40], [], [10, 30]]
        kept = deepcopy((guests, arrangement))
        sent_away(guests, 1)
        is_best(guests, arrangement)
        pairs(guests)
        one_more(guests, 5, 3)
        self.assertEqual((guests, arrangement), kept)

    def test_told_lists_may_be_changed(self):
        told = sent_away(FIVE, 1)
        told.append(7)
        self.assertEqual(sent_away(FIVE, 1), [30, 10])
        self.assertIs(type(told), list)


if __name__ == "__main__":
    unittest.main()
