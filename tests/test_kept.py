"""Points 16 and 17: how many the first room keeps, and where two lists of crowds part."""

import unittest
from copy import deepcopy
from itertools import product
from random import Random

from elderinn.crowds import crowd_in_first
from elderinn.errors import NoCrowd, NoRooms
from elderinn.kept import kept, parting
from elderinn.rooms import rooms
from tests.support import assert_refused, forty_crowds, parted, small_crowds, written_out

HUGE = 10 ** 29
SMALLS = [crowds for many, most in ((0, 1), (1, 4), (2, 3), (3, 2)) for crowds in small_crowds(many, most)]


def kept_one_by_one(crowds, n):
    """Point 16 by its words, guest by guest."""
    living = n
    for _, patience in written_out(crowds):
        if living <= patience:
            living += 1
    return living


def first_parting(one, other):
    """Point 17 by its words, at every n up to beyond all patience."""
    beyond = max([patience for _, patience in one + other], default=0) + 2
    told = [n for n in range(beyond) if kept(one, n) != kept(other, n)]
    return told[0] if told else None


class Kept(unittest.TestCase):
    def test_ordinary(self):
        self.assertEqual([kept([(2, 3)], n) for n in range(7)], [2, 3, 4, 4, 4, 5, 6])
        self.assertEqual([kept([(1, 0), (3, 2)], n) for n in range(5)], [3, 3, 3, 3, 4])

    def test_no_crowds(self):
        for n in (0, 1, 10 ** 39):
            self.assertEqual(kept([], n), n)

    def test_about_the_patience_of_a_crowd(self):
        for count, patience in ((4, 6), (HUGE, 3 * HUGE), (HUGE, HUGE), (HUGE, HUGE - 1), (1, HUGE)):
            full = patience + 1
            told = {full - count - 1: full - 1, full - count: full, full - 1: full, full: full, full + 1: full + 1}
            for n, many in told.items():
                if n >= 0:
                    self.assertEqual(kept([(count, patience)], n), many)

    def test_patience_zero(self):
        self.assertEqual([kept([(HUGE, 0)], n) for n in range(3)], [1, 1, 2])

    def test_patience_greater_than_all_counts(self):
        self.assertEqual([kept([(3, 99), (4, 98)], n) for n in (0, 1, 92, 93, 96, 97, 99, 100, 101)],
                         [7, 8, 99, 99, 99, 100, 100, 100, 101])

    def test_n_of_forty_figures(self):
        n = 10 ** 39 + 7
        self.assertEqual(kept([(HUGE, HUGE)], n), n)
        self.assertEqual(kept(forty_crowds(0), n), n)
        self.assertEqual(kept([(5, n)], n), n + 1)

    def test_small_ones_guest_by_guest(self):
        for crowds in SMALLS:
            for n in range(8):
                self.assertEqual(kept(crowds, n), kept_one_by_one(crowds, n))

    def test_small_ones_as_the_first_room_behind_elders_who_stay(self):
        for crowds in SMALLS:
            for n in range(1, 6):
                elders = [(100 + k, HUGE) for k in range(n)]
                self.assertEqual(kept(crowds, n), len(rooms(elders + written_out(crowds))[0]))

    def test_with_none_it_is_the_first_room(self):
        for crowds in SMALLS + [forty_crowds(seed) for seed in range(5)]:
            self.assertEqual(kept(crowds, 0), crowd_in_first(crowds, 1))

    def test_with_one_more_as_many_stay_or_one_fewer(self):
        for crowds in SMALLS:
            staying = [kept(crowds, n) - n for n in range(10)]
            for n in range(9):
                self.assertIn(staying[n] - staying[n + 1], (0, 1))
        for seed in range(5):
            crowds = forty_crowds(seed)
            for _, patience in crowds:
                for n in (patience // 3, patience, patience + 1):
                    self.assertIn(kept(crowds, n + 1) - kept(crowds, n), (0, 1))

    def test_none_stay_beyond_all_patience(self):
        for seed in range(5):
            crowds = forty_crowds(seed)
            most = max(patience for _, patience in crowds)
            self.assertEqual(kept(crowds, most + 1), most + 1)
            self.assertEqual(kept(crowds, most), most + 1)

    def test_crowds_behind_others(self):
        for first, behind in product(SMALLS[::9], SMALLS[::7]):
            for n in range(6):
                self.assertEqual(kept(first + behind, n), kept(behind, kept(first, n)))
        crowds = forty_crowds(1)
        for at in range(41):
            for n in (0, HUGE, 10 ** 40):
                self.assertEqual(kept(crowds, n), kept(crowds[at:], kept(crowds[:at], n)))

    def test_fuller_as_many_as_small_ones(self):
        for crowds in SMALLS:
            huge = [(count * HUGE, (patience + 1) * HUGE - 1) for count, patience in crowds]
            for n in range(6):
                self.assertEqual(kept(huge, n * HUGE), kept(crowds, n) * HUGE)

    def test_parted_in_two(self):
        for seed in range(5):
            crowds = forty_crowds(seed)
            for n in (0, 1, HUGE, 9 * HUGE):
                self.assertEqual(kept(parted(crowds), n), kept(crowds, n))

    def test_refused(self):
        for n in (-1, -10 ** 39):
            assert_refused(self, NoRooms, n, kept, [(2, 3)], n)
            assert_refused(self, NoRooms, n, kept, [], n)
        assert_refused(self, NoCrowd, 0, kept, [(0, 3)], 1)
        assert_refused(self, NoCrowd, 1, kept, [(1, 0), (1, -1), (0, 0)], 1)
        assert_refused(self, NoCrowd, 39, kept, forty_crowds(0)[:39] + [(HUGE, -HUGE)], 0)

    def test_crowds_are_refused_ahead_of_n(self):
        assert_refused(self, NoCrowd, 0, kept, [(1, -1)], -1)

    def test_by_name(self):
        self.assertEqual(kept(crowds=[(2, 3)], n=1), 3)
        self.assertEqual(kept(n=1, crowds=[(2, 3)]), 3)
        assert_refused(self, NoRooms, -1, kept, n=-1, crowds=[])


class Parting(unittest.TestCase):
    def assert_parting(self, one, other, told):
        self.assertEqual(parting(one, other), told)
        self.assertEqual(parting(other, one), told)

    def test_ordinary(self):
        self.assert_parting([(2, 3)], [(2, 4)], 3)
        self.assert_parting([(2, 3)], [(3, 3)], 0)
        self.assert_parting([(1, 5)], [(1, 7)], 6)

    def test_alike(self):
        self.assert_parting([], [], None)
        self.assert_parting([(2, 3)], [(2, 3)], None)
        self.assert_parting([(5, 3)], [(2, 3), (3, 3)], None)
        self.assert_parting([(HUGE, HUGE)], [(1, HUGE), (HUGE - 1, HUGE)], None)

    def test_alike_though_others_live_behind(self):
        # More than ever find a place in the first room, and a crowd that never finds one.
        self.assert_parting([(5, 3)], [(4, 3)], None)
        self.assert_parting([(4, 3)], [(HUGE, 3)], None)
        self.assert_parting([(4, 3)], [(4, 3), (HUGE, 2)], None)
        self.assert_parting([(4, 3), (1, 9)], [(4, 3), (2, 0), (1, 9)], None)

    def test_none_and_some(self):
        self.assert_parting([], [(1, 0)], 0)
        self.assert_parting([], [(HUGE, HUGE)], 0)
        self.assert_parting([], forty_crowds(2), 0)

    def test_unlike_in_one_crowd(self):
        # Where there are places for all of the fewer, and not only for as many.
        self.assert_parting([(HUGE, 3 * HUGE)], [(HUGE, 3 * HUGE + 1)], 2 * HUGE + 2)
        self.assert_parting([(HUGE, 3 * HUGE)], [(HUGE + 1, 3 * HUGE)], 0)
        self.assert_parting([(HUGE, HUGE)], [(HUGE + 1, HUGE)], 0)
        self.assert_parting([(HUGE + 1, HUGE)], [(HUGE + 2, HUGE)], None)
        self.assert_parting([(HUGE, 0)], [(HUGE, 1)], 0)
        self.assert_parting([(1, HUGE)], [(1, HUGE - 1)], HUGE)

    def test_the_order_of_crowds(self):
        self.assert_parting([(1, 1), (1, 3)], [(1, 3), (1, 1)], 1)
        self.assert_parting([(1, HUGE), (1, 3 * HUGE)], [(1, 3 * HUGE), (1, HUGE)], HUGE)

    def test_small_ones_at_every_n(self):
        for one, other in product(SMALLS, SMALLS[::9]):
            self.assertEqual(parting(one, other), first_parting(one, other))

    def test_longer_ones_at_every_n(self):
        random = Random(17)
        alike = 0
        for _ in range(600):
            one = [(random.randint(1, 6), random.randint(0, 9)) for _ in range(random.randint(1, 7))]
            other = parted(one)
            at = random.randrange(len(other))
            other[at] = (max(1, other[at][0] + random.randint(-1, 1)), max(0, other[at][1] + random.randint(-1, 1)))
            told = first_parting(one, other)
            alike += told is None
            self.assert_parting(one, other, told)
        self.assertTrue(100 < alike < 500)

    def test_forty_crowds_alike(self):
        for seed in range(3):
            crowds = forty_crowds(seed)
            self.assert_parting(crowds, list(crowds), None)
            self.assert_parting(crowds, parted(crowds), None)
        steps = [(1, k * HUGE // 50) for k in range(1, 41)]
        self.assert_parting(steps, parted(steps), None)

    def test_forty_crowds_that_part_late(self):
        # Each crowd is of one guest, so each is felt just about its own patience.
        steps = [(1, k * HUGE // 50) for k in range(40, 0, -1)]
        for at in range(40):
            other = list(steps)
            other[at] = (1, steps[at][1] + 1)
            told = parting(steps, other)
            self.assertEqual(parting(other, steps), told)
            self.assertEqual(abs(kept(steps, told) - kept(other, told)), 1)
            self.assertEqual(kept(steps, told - 1), kept(other, told - 1))
            self.assertLess(abs(steps[at][1] - told), 50)

    def test_forty_crowds_unlike(self):
        for seed in range(5):
            one = forty_crowds(seed)
            most = max(patience for _, patience in one)
            for other in (forty_crowds(seed + 1), one[:-1] + [(HUGE, most + 1)], one + [(1, most + 2)]):
                told = parting(one, other)
                self.assertNotEqual(kept(one, told), kept(other, told))
                for n in {0, told // 3, told // 2, told - 2, told - 1} & set(range(told)):
                    self.assertEqual(kept(one, n), kept(other, n))

    def test_refused(self):
        assert_refused(self, NoCrowd, 1, parting, [(1, 0), (0, 0)], [(1, 0)])
        assert_refused(self, NoCrowd, 1, parting, [(1, 0)], [(1, 0), (1, -1)])
        assert_refused(self, NoCrowd, 0, parting, [], [(-HUGE, HUGE)])

    def test_the_first_list_ahead_of_the_second_one(self):
        assert_refused(self, NoCrowd, 2, parting, [(1, 0), (1, 0), (0, 0)], [(0, 0)])
        assert_refused(self, NoCrowd, 0, parting, [(1, -1)], [(1, 0), (0, 0)])

    def test_by_name(self):
        self.assertEqual(parting(one=[(2, 3)], other=[(2, 4)]), 3)
        self.assertEqual(parting(other=[(2, 3)], one=[(2, 3)]), None)
        assert_refused(self, NoCrowd, 1, parting, other=[(0, 0)], one=[(1, 0), (0, 0)])


class TheAskersOwn(unittest.TestCase):
    def test_what_is_handed_in_stays_as_it_was(self):
        one, other = [(2, 3), (1, 5)], [(2, 4)]
        before = deepcopy((one, other))
        kept(one, 2)
        parting(one, other)
        parting(one, one)
        self.assertEqual((one, other), before)

    def test_a_list_handed_in_may_be_changed(self):
        crowds = [(2, 3)]
        self.assertEqual(kept(crowds, 0), 2)
        self.assertIsNone(parting(crowds, [(2, 3)]))
        crowds.append((1, 9))
        self.assertEqual(kept(crowds, 0), 3)
        self.assertEqual(parting(crowds, [(2, 3)]), 0)

    def test_kinds(self):
        self.assertIs(type(kept([], 0)), int)
        self.assertIs(type(kept([(2, 3)], 0)), int)
        self.assertIs(type(parting([], [(1, 0)])), int)
        self.assertIs(type(parting([(2, 3)], [(2, 4)])), int)


if __name__ == "__main__":
    unittest.main()
