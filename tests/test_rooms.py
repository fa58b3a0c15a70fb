"""Points 5 to 7: guests, rooms by age, arrangements."""

import unittest
from copy import deepcopy
from itertools import permutations, product

from elderinn.errors import NoGuest, NoRoom, NoRooms
from elderinn.rooms import in_first, rooms, sizes, upset
from tests.support import assert_refused, partitions, rooms_by_age, upset_in

FIVE = [(50, 0), (40, 1), (30, 0), (20, 2), (10, 1)]
FIVE_ROOMS = [[50, 40, 20], [30, 10]]
HUGE = 10 ** 29


def sixty():
    """Sixty guests, neither in order of age nor of one patience."""
    return [(37 * k % 61 - 30, 7 * k % 11) for k in range(60)]


class Rooms(unittest.TestCase):
    def test_ordinary(self):
        self.assertEqual(rooms(FIVE), FIVE_ROOMS)
        self.assertEqual(sizes(FIVE), [3, 2])

    def test_no_guests(self):
        self.assertEqual(rooms([]), [])
        self.assertEqual(sizes([]), [])
        self.assertEqual(in_first([], 0), 0)
        self.assertEqual(in_first([], 3), 0)

    def test_one_guest(self):
        for patience in (0, 1, HUGE):
            self.assertEqual(rooms([(-4, patience)]), [[-4]])
            self.assertEqual(sizes([(-4, patience)]), [1])

    def test_patience_zero_means_a_room_without_elders(self):
        self.assertEqual(rooms([(3, 0), (2, 0), (1, 0)]), [[3], [2], [1]])

    def test_just_as_many_as_are_borne(self):
        self.assertEqual(rooms([(3, 0), (2, 1), (1, 1)]), [[3, 2], [1]])
        self.assertEqual(rooms([(3, 0), (2, 1), (1, 2)]), [[3, 2, 1]])

    def test_patience_greater_than_the_number_of_guests(self):
        guests = [(k, 4 + k) for k in range(4)]
        self.assertEqual(rooms(guests), [[3, 2, 1, 0]])
        self.assertEqual(rooms([(1, HUGE), (0, HUGE)]), [[1, 0]])

    def test_the_first_room_that_is_borne_not_the_emptiest(self):
        self.assertEqual(rooms([(5, 0), (4, 0), (3, 0), (2, 1)]), [[5, 2], [4], [3]])

    def test_ages_of_either_sign_and_of_thirty_figures(self):
        guests = [(-HUGE, 1), (0, 0), (HUGE, 5), (-1, 1), (HUGE - 1, 0)]
        self.assertEqual(rooms(guests), [[HUGE, -1], [HUGE - 1, -HUGE], [0]])

    def test_any_order(self):
        for guests in permutations(FIVE):
            self.assertEqual(rooms(list(guests)), FIVE_ROOMS)
            self.assertEqual(sizes(list(guests)), [3, 2])

    def test_sixty_guests(self):
        told = rooms(sixty())
        self.assertEqual(told, rooms_by_age(sixty()))
        self.assertEqual(rooms(sixty()[::-1]), told)
        self.assertEqual(sum(sizes(sixty())), 60)
        self.assertEqual(rooms([(k, 0) for k in range(60)]), [[k] for k in range(60)][::-1])

    def test_all_small_ones_by_the_rule(self):
        for many in range(5):
            for patiences in product(range(many + 2), repeat=many):
                guests = list(enumerate(patiences))
                self.assertEqual(rooms(guests), rooms_by_age(guests))

    def test_sizes_are_those_of_the_rooms_and_never_rise(self):
        for patiences in product(range(4), repeat=5):
            guests = list(enumerate(patiences))
            told = sizes(guests)
            self.assertEqual(told, [len(room) for room in rooms(guests)])
            self.assertEqual(told, sorted(told, reverse=True))
            self.assertNotIn(0, told)

    def test_by_name(self):
        self.assertEqual(rooms(guests=FIVE), FIVE_ROOMS)
        self.assertEqual(sizes(guests=FIVE), [3, 2])


class WrongGuests(unittest.TestCase):
    ASKED = (lambda guests: rooms(guests), lambda guests: sizes(guests),
             lambda guests: in_first(guests, 0), lambda guests: upset(guests, []))

    def assert_no_guest(self, what, guests):
        for asked in WrongGuests.ASKED:
            assert_refused(self, NoGuest, what, asked, guests)

    def test_patience_below_zero(self):
        self.assert_no_guest(0, [(5, -1)])
        self.assert_no_guest(1, [(5, 0), (4, -HUGE)])

    def test_age_ahead(self):
        self.assert_no_guest(1, [(5, 0), (5, 0)])
        self.assert_no_guest(2, [(5, 0), (-6, 1), (5, 3)])

    def test_the_first_of_several(self):
        self.assert_no_guest(1, [(5, 0), (4, -1), (5, 0)])
        self.assert_no_guest(1, [(5, 0), (5, 0), (4, -1)])
        self.assert_no_guest(0, [(5, -1), (5, 0)])
        self.assert_no_guest(2, [(1, 0), (2, 0), (2, -1), (3, -1)])

    def test_in_the_order_handed_in_not_that_of_age(self):
        self.assert_no_guest(0, [(1, -1), (9, -1)])


class InFirst(unittest.TestCase):
    def test_ordinary(self):
        self.assertEqual([in_first(FIVE, j) for j in range(5)], [0, 3, 5, 5, 5])

    def test_as_many_as_there_are_and_one_more(self):
        guests = sixty()
        many = len(rooms(guests))
        self.assertLess(in_first(guests, many - 1), 60)
        self.assertEqual(in_first(guests, many), 60)
        self.assertEqual(in_first(guests, many + 1), 60)

    def test_numbers_of_rooms_of_forty_figures(self):
        self.assertEqual(in_first(FIVE, 10 ** 40), 5)
        self.assertEqual(in_first([], 10 ** 40), 0)

    def test_below_zero(self):
        for j in (-1, -10 ** 40):
            assert_refused(self, NoRooms, j, in_first, FIVE, j)
            assert_refused(self, NoRooms, j, in_first, [], j)

    def test_guests_are_refused_ahead_of_rooms(self):
        assert_refused(self, NoGuest, 0, in_first, [(1, -1)], -1)

    def test_by_name(self):
        self.assertEqual(in_first(guests=FIVE, j=1), 3)
        self.assertEqual(in_first(j=1, guests=FIVE), 3)
        assert_refused(self, NoRooms, -2, in_first, guests=FIVE, j=-2)


class Upset(unittest.TestCase):
    def test_in_peace(self):
        self.assertIsNone(upset(FIVE, FIVE_ROOMS))
        self.assertIsNone(upset(FIVE, [[50], [40], [30], [20], [10]]))
        self.assertIsNone(upset([], []))

    def test_empty_rooms_are_counted(self):
        self.assertIsNone(upset([], [[], []]))
        self.assertIsNone(upset(FIVE, [[], [50, 40, 20], [], [30, 10], []]))
        self.assertEqual(upset(FIVE, [[], [50], [], [40, 30], [20, 10]]), (3, 30))

    def test_the_first_room_then_the_eldest_in_it(self):
        guests = [(5, 9), (4, 0), (3, 1), (2, 1), (1, 0)]
        self.assertEqual(upset(guests, [[5, 4, 3, 2, 1]]), (0, 4))
        self.assertEqual(upset(guests, [[5, 3, 2], [4, 1]]), (0, 2))
        self.assertEqual(upset(guests, [[4, 1], [5, 3, 2]]), (0, 1))
        self.assertEqual(upset(guests, [[4, 3], [5, 2, 1]]), (1, 1))

    def test_ages_in_any_order(self):
        for room in permutations([50, 40, 30, 20, 10]):
            self.assertEqual(upset(FIVE, [list(room)]), (0, 30))
        self.assertIsNone(upset(FIVE, [[20, 50, 40], [10, 30]]))

    def test_the_younger_are_no_trouble(self):
        self.assertIsNone(upset([(9, 0), (8, 5), (7, 5)], [[7, 8, 9]]))

    def test_told_ages_of_zero_and_below(self):
        self.assertEqual(upset([(1, 0), (0, 0)], [[1, 0]]), (0, 0))
        self.assertEqual(upset([(-HUGE, 0), (HUGE, 0)], [[], [-HUGE, HUGE]]), (1, -HUGE))

    def test_a_tuple_is_told(self):
        self.assertIs(type(upset([(1, 0), (0, 0)], [[1, 0]])), tuple)

    def test_all_small_arrangements(self):
        for patiences in product(range(4), repeat=4):
            guests = list(enumerate(patiences))
            for arrangement in partitions([2, 0, 3, 1]):
                self.assertEqual(upset(guests, arrangement), first_upset(guests, arrangement))

    def test_an_age_that_none_has(self):
        assert_refused(self, NoRoom, 0, upset, [], [[1]])
        assert_refused(self, NoRoom, 1, upset, FIVE, [[50, 40], [30, 11], [20, 10]])

    def test_an_age_twice(self):
        assert_refused(self, NoRoom, 0, upset, FIVE, [[50, 40, 50], [30, 20, 10]])
        assert_refused(self, NoRoom, 2, upset, FIVE, [[50, 40], [30, 20, 10], [40]])

    def test_the_first_wrong_room(self):
        assert_refused(self, NoRoom, 1, upset, FIVE, [[50], [50], [7]])
        assert_refused(self, NoRoom, 1, upset, FIVE, [[], [7], [50, 50]])
        assert_refused(self, NoRoom, 2, upset, FIVE, [[], [50], [-50]])

    def test_an_age_left_out(self):
        assert_refused(self, NoRoom, None, upset, FIVE, [])
        assert_refused(self, NoRoom, None, upset, FIVE, [[50, 40, 20], [30]])
        assert_refused(self, NoRoom, None, upset, [(0, 0)], [[], []])

    def test_a_wrong_age_goes_ahead_of_one_left_out(self):
        assert_refused(self, NoRoom, 0, upset, FIVE, [[7]])
        assert_refused(self, NoRoom, 1, upset, FIVE, [[50], [50]])

    def test_a_wrong_arrangement_goes_ahead_of_who_is_upset(self):
        assert_refused(self, NoRoom, None, upset, FIVE, [[50, 30]])
        assert_refused(self, NoRoom, 1, upset, FIVE, [[50, 40, 30, 20, 10], [7]])

    def test_guests_are_refused_ahead_of_rooms(self):
        assert_refused(self, NoGuest, 1, upset, [(5, 0), (5, 0)], [[7]])
        assert_refused(self, NoGuest, 0, upset, [(5, -1)], [])

    def test_by_name(self):
        self.assertEqual(upset(guests=FIVE, arrangement=[[50, 30], [40, 20, 10]]), (0, 30))
        assert_refused(self, NoRoom, None, upset, arrangement=[[50]], guests=FIVE)


def first_upset(guests, arrangement):
    """Point 7 by its words."""
    for number, room in enumerate(arrangement):
        told = upset_in(dict(guests), room)
        if told:
            return (number, max(told))
    return None


class TheAskersOwn(unittest.TestCase):
    def test_what_is_handed_in_stays_as_it_was(self):
        guests, arrangement = FIVE[::-1], [[20, 50, 40], [], [10, 30]]
        kept = deepcopy((guests, arrangement))
        rooms(guests)
        sizes(guests)
        in_first(guests, 1)
        upset(guests, arrangement)
        self.assertEqual((guests, arrangement), kept)

    def test_told_lists_may_be_changed(self):
        told = rooms(FIVE)
        told[0].append(7)
        told.append([8])
        self.assertEqual(rooms(FIVE), FIVE_ROOMS)
        many = sizes(FIVE)
        many.append(9)
        self.assertEqual(sizes(FIVE), [3, 2])

    def test_a_list_handed_in_may_be_changed(self):
        guests = list(FIVE)
        told, many = rooms(guests), sizes(guests)
        guests.clear()
        self.assertEqual((told, many), (FIVE_ROOMS, [3, 2]))
        self.assertEqual(rooms(guests), [])

    def test_kinds(self):
        self.assertIs(type(rooms(FIVE)), list)
        self.assertEqual({type(room) for room in rooms(FIVE)}, {list})
        self.assertIs(type(sizes(FIVE)), list)
        self.assertIs(type(in_first(FIVE, 0)), int)
        self.assertIs(type(in_first([], 0)), int)


if __name__ == "__main__":
    unittest.main()
