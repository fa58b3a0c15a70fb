"""Points 14 and 15: crowds of any size, and where the m-th lives."""

import unittest
from copy import deepcopy
from itertools import groupby
from random import Random

from elderinn.crowds import crowd_in_first, crowd_sizes, room_of
from elderinn.errors import NoCrowd, NoGuest, NoRooms
from elderinn.inns import Inn
from elderinn.rooms import in_first, rooms, sizes
from tests.support import assert_refused, forty_crowds, parted, rooms_by_age, small_crowds, written_out

# Rooms of 5, 5, 3, 1, 1, 1, 1: the first seven alone, then six fill three by two, then four.
THREE = [(7, 0), (6, 2), (4, 4)]
HUGE = 10 ** 29
SMALLS = [crowds for many, most in ((0, 1), (1, 5), (2, 4), (3, 2)) for crowds in small_crowds(many, most)]


def some_crowds():
    """A hundred lists of up to seven crowds of up to eight guests."""
    random = Random(14)
    return [[(random.randint(1, 8), random.randint(0, 6)) for _ in range(random.randint(2, 7))]
            for _ in range(100)]


def counted(filled):
    """Sizes one by one, as (size, how many) of each there is."""
    return [(size, len(list(alike))) for size, alike in groupby(filled)]


def total(crowds):
    return sum(count for count, _ in crowds)


def eldest_of(crowds, m):
    """The m eldest guests of crowds, as crowds."""
    told = []
    for count, patience in crowds:
        if m > 0:
            told.append((min(count, m), patience))
        m -= count
    return told


def room_one_fuller(crowds, m):
    """The room that is one fuller with the m-th than without, by halving."""
    before, after = eldest_of(crowds, m - 1), eldest_of(crowds, m)
    low, high = 0, m
    while low < high:
        middle = (low + high) // 2
        if crowd_in_first(after, middle + 1) > crowd_in_first(before, middle + 1):
            high = middle
        else:
            low = middle + 1
    return low


class CrowdSizes(unittest.TestCase):
    def test_ordinary(self):
        self.assertEqual(crowd_sizes(THREE), [(5, 2), (3, 1), (1, 4)])
        self.assertEqual(crowd_sizes([(10, 3)]), [(4, 2), (2, 1)])

    def test_no_crowds(self):
        self.assertEqual(crowd_sizes([]), [])

    def test_one_crowd(self):
        self.assertEqual(crowd_sizes([(1, 0)]), [(1, 1)])
        self.assertEqual(crowd_sizes([(6, 2)]), [(3, 2)])
        self.assertEqual(crowd_sizes([(7, 2)]), [(3, 2), (1, 1)])
        self.assertEqual(crowd_sizes([(8, 2)]), [(3, 2), (2, 1)])
        self.assertEqual(crowd_sizes([(9, 2)]), [(3, 3)])

    def test_patience_zero(self):
        self.assertEqual(crowd_sizes([(HUGE, 0)]), [(1, HUGE)])
        self.assertEqual(crowd_sizes([(3, 5), (4, 0)]), [(3, 1), (1, 4)])

    def test_patience_greater_than_all_counts(self):
        self.assertEqual(crowd_sizes([(3, 99), (4, 99), (5, 98)]), [(12, 1)])
        self.assertEqual(crowd_sizes([(HUGE, 10 ** 30)]), [(HUGE, 1)])

    def test_just_full_and_one_more(self):
        self.assertEqual(crowd_sizes([(2, 4), (3, 4)]), [(5, 1)])
        self.assertEqual(crowd_sizes([(2, 4), (4, 4)]), [(5, 1), (1, 1)])
        self.assertEqual(crowd_sizes([(5, 4), (1, 4)]), [(5, 1), (1, 1)])
        self.assertEqual(crowd_sizes([(5, 4), (1, 5)]), [(6, 1)])

    def test_rising_and_falling_patience(self):
        self.assertEqual(crowd_sizes([(3, 0), (3, 1), (3, 2)]), [(3, 3)])
        self.assertEqual(crowd_sizes([(3, 2), (3, 1), (3, 0)]), [(3, 1), (2, 1), (1, 4)])

    def test_a_size_stands_once(self):
        # The room of three that is there, and those that are filled to three.
        self.assertEqual(crowd_sizes([(3, 2), (2, 0), (4, 2)]), [(3, 3)])

    def test_some_places_left_in_rooms_of_several_sizes(self):
        self.assertEqual(crowd_sizes([(3, 0), (4, 2), (2, 3)]), [(4, 2), (1, 1)])
        self.assertEqual(crowd_sizes([(9, 2), (5, 0), (8, 4), (3, 5)]), [(6, 3), (3, 1), (1, 4)])

    def test_small_ones_as_the_rooms_of_their_guests(self):
        for crowds in SMALLS + some_crowds():
            self.assertEqual(crowd_sizes(crowds), counted(sizes(written_out(crowds))))

    def test_small_ones_by_the_rule(self):
        for crowds in some_crowds()[:30]:
            filled = [len(room) for room in rooms_by_age(written_out(crowds))]
            self.assertEqual(crowd_sizes(crowds), counted(filled))

    def test_small_ones_as_an_inn_in_any_order(self):
        random = Random(10)
        for crowds in SMALLS[::7] + some_crowds()[::3]:
            inn, guests = Inn(), written_out(crowds)
            random.shuffle(guests)
            for age, patience in guests:
                inn.come(age, patience)
            self.assertEqual(crowd_sizes(crowds), counted([len(room) for room in inn.rooms()]))

    def test_crowds_alike_are_as_one(self):
        self.assertEqual(crowd_sizes([(4, 2)] * 5), crowd_sizes([(20, 2)]))
        self.assertEqual(crowd_sizes([(HUGE, HUGE)] * 40), crowd_sizes([(40 * HUGE, HUGE)]))

    def test_parted_in_two(self):
        for crowds in SMALLS + some_crowds() + [forty_crowds(seed) for seed in range(5)]:
            self.assertEqual(crowd_sizes(parted(crowds)), crowd_sizes(crowds))

    def test_by_name(self):
        self.assertEqual(crowd_sizes(crowds=THREE), [(5, 2), (3, 1), (1, 4)])


class CrowdsOfThirtyFigures(unittest.TestCase):
    def test_told_by_hand(self):
        self.assertEqual(crowd_sizes([(7 * HUGE, 2 * HUGE - 1)]), [(2 * HUGE, 3), (HUGE, 1)])
        self.assertEqual(crowd_sizes([(HUGE, 2)]), [(3, HUGE // 3), (1, 1)])
        self.assertEqual(crowd_sizes([(HUGE, 0), (HUGE, 1), (HUGE, 3)]), [(4, HUGE // 2), (2, HUGE // 2)])
        self.assertEqual(crowd_sizes([(HUGE, 0), (5, HUGE)]), [(6, 1), (1, HUGE - 1)])

    def test_fuller_rooms_as_many_as_small_ones(self):
        # Where all counts and all that is borne are so many times as many, so are all sizes.
        for crowds in some_crowds():
            huge = [(count * HUGE, (patience + 1) * HUGE - 1) for count, patience in crowds]
            self.assertEqual(crowd_sizes(huge), [(size * HUGE, many) for size, many in crowd_sizes(crowds)])

    def test_more_rooms_as_full_as_small_ones(self):
        # Sixty is parted by any number of places up to six, so no room is filled but in part.
        for crowds in SMALLS[::3]:
            whole = [(count * 60 ** 4, min(patience, 5)) for count, patience in crowds]
            huge = [(count * HUGE, patience) for count, patience in whole]
            self.assertEqual(crowd_sizes(huge), [(size, many * HUGE) for size, many in crowd_sizes(whole)])

    def test_forty_crowds(self):
        for seed in range(20):
            crowds = forty_crowds(seed)
            for told in (crowds, sorted(crowds, key=lambda crowd: crowd[1]),
                         sorted(crowds, key=lambda crowd: -crowd[1])):
                filled = crowd_sizes(told)
                self.assertEqual(sum(size * many for size, many in filled), total(told))
                self.assertTrue(all(size > 0 and many > 0 for size, many in filled))
                self.assertEqual([size for size, _ in filled], sorted({size for size, _ in filled})[::-1])

    def test_falling_patience_leaves_a_room_in_part(self):
        # Each crowd finds one room that it may fill, the one that was begun by who came ahead.
        crowds = [(HUGE + 1, HUGE - 1 - k) for k in range(3)]
        self.assertEqual(crowd_sizes(crowds), [(HUGE, 1), (HUGE - 1, 1), (HUGE - 2, 1), (6, 1)])


class CrowdInFirst(unittest.TestCase):
    def test_ordinary(self):
        self.assertEqual([crowd_in_first(THREE, j) for j in range(10)], [0, 5, 10, 13, 14, 15, 16, 17, 17, 17])

    def test_no_crowds(self):
        for j in (0, 1, 10 ** 40):
            self.assertEqual(crowd_in_first([], j), 0)

    def test_of_none_of_one_of_as_many_as_there_are_and_one_more(self):
        crowds = [(HUGE, 2), (HUGE, 0)]
        many = HUGE // 3 + 1 + HUGE
        self.assertEqual(crowd_in_first(crowds, 0), 0)
        self.assertEqual(crowd_in_first(crowds, 1), 3)
        self.assertEqual(crowd_in_first(crowds, many - 1), 2 * HUGE - 1)
        for j in (many, many + 1, 10 ** 40):
            self.assertEqual(crowd_in_first(crowds, j), 2 * HUGE)

    def test_about_each_change_of_size(self):
        for crowds in [forty_crowds(seed) for seed in range(3)] + some_crowds():
            ahead, number = 0, 0
            for size, many in crowd_sizes(crowds):
                self.assertEqual(crowd_in_first(crowds, number), ahead)
                self.assertEqual(crowd_in_first(crowds, number + 1), ahead + size)
                self.assertEqual(crowd_in_first(crowds, number + many - 1), ahead + size * (many - 1))
                ahead, number = ahead + size * many, number + many
            for j in (number, number + 1, 10 ** 40):
                self.assertEqual(crowd_in_first(crowds, j), total(crowds))

    def test_small_ones_as_the_rooms_of_their_guests(self):
        for crowds in SMALLS + some_crowds():
            guests = written_out(crowds)
            for j in range(len(rooms(guests)) + 2):
                self.assertEqual(crowd_in_first(crowds, j), in_first(guests, j))

    def test_by_name(self):
        self.assertEqual(crowd_in_first(crowds=THREE, j=3), 13)
        self.assertEqual(crowd_in_first(j=3, crowds=THREE), 13)


class RoomOf(unittest.TestCase):
    def test_ordinary(self):
        self.assertEqual([room_of(THREE, m) for m in range(1, 18)],
                         [0, 1, 2, 3, 4, 5, 6, 0, 0, 1, 1, 2, 2, 0, 0, 1, 1])

    def test_the_first_and_the_last(self):
        self.assertEqual(room_of([(1, 0)], 1), 0)
        self.assertEqual(room_of([(HUGE, 0)], 1), 0)
        self.assertEqual(room_of([(HUGE, 0)], HUGE), HUGE - 1)
        self.assertEqual(room_of([(HUGE, 9)], HUGE), HUGE // 10 - 1)
        self.assertEqual(room_of([(HUGE, 10 ** 30)], HUGE), 0)
        self.assertEqual(room_of([(HUGE, 0), (HUGE, HUGE)], 2 * HUGE), 0)
        self.assertEqual(room_of([(HUGE, HUGE), (HUGE, 0)], 2 * HUGE), HUGE)

    def test_about_where_the_size_of_rooms_changes(self):
        crowds = [(HUGE, 0), (HUGE, 1), (HUGE, 3)]
        told = {HUGE: HUGE - 1, HUGE + 1: 0, 2 * HUGE: HUGE - 1, 2 * HUGE + 1: 0, 2 * HUGE + 2: 0,
                2 * HUGE + 3: 1, 3 * HUGE: HUGE // 2 - 1}
        self.assertEqual({m: room_of(crowds, m) for m in told}, told)
        crowds = [(3, 0), (4, 2), (10, 3)]
        self.assertEqual([room_of(crowds, m) for m in range(8, 18)], [0, 1, 2, 2, 2, 3, 3, 3, 3, 4])

    def test_past_rooms_too_full_to_be_borne(self):
        self.assertEqual(room_of([(HUGE, HUGE - 1), (5, 1)], HUGE + 1), 1)
        self.assertEqual(room_of([(HUGE, HUGE - 1), (5, 1)], HUGE + 5), 3)

    def test_small_ones_as_the_rooms_of_their_guests(self):
        for crowds in SMALLS + some_crowds():
            guests = written_out(crowds)
            home = {age: number for number, room in enumerate(rooms(guests)) for age in room}
            self.assertEqual([room_of(crowds, m) for m in range(1, len(guests) + 1)],
                             [home[age] for age, _ in guests])

    def test_of_forty_crowds_where_it_is_one_fuller(self):
        crowds = forty_crowds(3)
        for number in range(0, 40, 8):
            ahead = total(crowds[:number])
            count, patience = crowds[number]
            for m in (ahead + 1, ahead + min(count, patience + 1), ahead + count // 2, ahead + count):
                self.assertEqual(room_of(crowds, m), room_one_fuller(crowds, m))

    def test_none_such(self):
        for m in (18, 19, 0, -1, -17, 10 ** 40, -10 ** 40):
            assert_refused(self, NoGuest, m, room_of, THREE, m)
        for m in (0, 1, -1):
            assert_refused(self, NoGuest, m, room_of, [], m)
        assert_refused(self, NoGuest, HUGE + 1, room_of, [(HUGE, 3)], HUGE + 1)
        crowds = forty_crowds(3)
        self.assertGreaterEqual(room_of(crowds, total(crowds)), 0)
        assert_refused(self, NoGuest, total(crowds) + 1, room_of, crowds, total(crowds) + 1)

    def test_by_name(self):
        self.assertEqual(room_of(crowds=THREE, m=7), 6)
        assert_refused(self, NoGuest, 0, room_of, m=0, crowds=THREE)


class WrongCrowds(unittest.TestCase):
    ASKED = (lambda crowds: crowd_sizes(crowds), lambda crowds: crowd_in_first(crowds, 1),
             lambda crowds: crowd_in_first(crowds, 0), lambda crowds: room_of(crowds, 1))

    def assert_no_crowd(self, what, crowds):
        for asked in WrongCrowds.ASKED:
            assert_refused(self, NoCrowd, what, asked, crowds)

    def test_counts_below_one(self):
        self.assert_no_crowd(0, [(0, 0)])
        self.assert_no_crowd(0, [(-1, 5)])
        self.assert_no_crowd(1, [(1, 0), (-HUGE, HUGE)])

    def test_patience_below_zero(self):
        self.assert_no_crowd(0, [(1, -1)])
        self.assert_no_crowd(2, [(1, 0), (2, 3), (HUGE, -HUGE)])

    def test_the_first_of_several(self):
        self.assert_no_crowd(1, [(1, 0), (0, 0), (1, -1)])
        self.assert_no_crowd(1, [(1, 0), (1, -1), (0, 0)])
        self.assert_no_crowd(0, [(0, -1), (0, -1)])
        self.assert_no_crowd(39, [(HUGE, 0)] * 39 + [(0, 0)])

    def test_behind_the_asked_for(self):
        # The first guest is there, and yet a later crowd is none.
        assert_refused(self, NoCrowd, 1, room_of, [(5, 0), (0, 0)], 1)
        assert_refused(self, NoCrowd, 1, crowd_in_first, [(5, 0), (1, -1)], 0)

    def test_crowds_are_refused_ahead_of_rooms_and_guests(self):
        assert_refused(self, NoCrowd, 1, crowd_in_first, [(5, 0), (0, 0)], -1)
        for m in (0, -1, 6):
            assert_refused(self, NoCrowd, 1, room_of, [(5, 0), (0, 0)], m)

    def test_rooms_below_zero(self):
        for j in (-1, -10 ** 40):
            assert_refused(self, NoRooms, j, crowd_in_first, THREE, j)
            assert_refused(self, NoRooms, j, crowd_in_first, [], j)
        assert_refused(self, NoRooms, -2, crowd_in_first, j=-2, crowds=THREE)


class TheAskersOwn(unittest.TestCase):
    def test_what_is_handed_in_stays_as_it_was(self):
        crowds = list(THREE)
        kept = deepcopy(crowds)
        crowd_sizes(crowds)
        crowd_in_first(crowds, 2)
        room_of(crowds, 12)
        self.assertEqual(crowds, kept)

    def test_told_lists_may_be_changed(self):
        for crowds in ([], THREE):
            kept = crowd_sizes(crowds)
            told = crowd_sizes(crowds)
            told.append((9, 9))
            self.assertEqual(crowd_sizes(crowds), kept)

    def test_a_list_handed_in_may_be_changed(self):
        crowds = list(THREE)
        told = crowd_sizes(crowds)
        crowds.clear()
        self.assertEqual(told, [(5, 2), (3, 1), (1, 4)])
        self.assertEqual(crowd_sizes(crowds), [])
        self.assertEqual(crowd_in_first(crowds, 1), 0)

    def test_kinds(self):
        for crowds in ([], THREE, forty_crowds(0)):
            told = crowd_sizes(crowds)
            self.assertIs(type(told), list)
            self.assertLessEqual({type(pair) for pair in told}, {tuple})
            self.assertLessEqual({type(number) for pair in told for number in pair}, {int})
            self.assertIs(type(crowd_in_first(crowds, 1)), int)
        self.assertIs(type(room_of(THREE, 1)), int)


if __name__ == "__main__":
    unittest.main()
