"""Points 8 to 10: an Inn, coming, going, turned patience."""

import unittest
from itertools import permutations
from random import Random

from elderinn.errors import NoGuest
from elderinn.inns import Inn
from elderinn.rooms import rooms
from tests.support import assert_refused, homes_by_age, rooms_of_homes, upset_in

FIVE = [(50, 0), (40, 1), (30, 0), (20, 2), (10, 1)]
HUGE = 10 ** 29


def inn_of(guests):
    inn = Inn()
    for age, patience in guests:
        inn.come(age, patience)
    return inn


class Model:
    """Points 8 and 9 by their words: the room of each age, and what each deed tells."""

    def __init__(self):
        self.patience_of = {}
        self.home = {}

    def living(self, room):
        return [age for age in self.home if self.home[age] == room]

    def come(self, age, patience):
        self.patience_of[age] = patience
        told = [(age, 0)]
        while True:
            mover, room = told[-1]
            self.home[mover] = room
            upset = upset_in(self.patience_of, self.living(room))
            if not upset:
                return told
            told.append((max(upset), room + 1))

    def go(self, age):
        room = self.home.pop(age)
        del self.patience_of[age]
        told = []
        while True:
            bearing = [other for other in self.home if self.home[other] > room
                       and sum(elder > other for elder in self.living(room)) <= self.patience_of[other]]
            if not bearing:
                return told
            told.append((max(bearing), room))
            left = self.home[max(bearing)]
            self.home[max(bearing)] = room
            room = left

    def turn(self, age, patience):
        return self.go(age) + self.come(age, patience)


def assert_as_the_rule(case, inn, patience_of):
    """That an inn tells of these guests what point 6 says of them."""
    guests = [(age, patience_of[age]) for age in sorted(patience_of)[::-1]]
    home = homes_by_age(guests)
    case.assertEqual(inn.guests(), guests)
    case.assertEqual(inn.rooms(), rooms_of_homes(home))
    case.assertEqual(inn.rooms(), rooms(guests))
    case.assertEqual(len(inn), len(guests))
    case.assertEqual({age: inn.where(age) for age in home}, home)


class Coming(unittest.TestCase):
    def test_empty_at_first(self):
        inn = Inn()
        self.assertEqual((inn.guests(), inn.rooms(), len(inn)), ([], [], 0))
        assert_refused(self, NoGuest, 0, inn.where, 0)

    def test_first_into_the_first_room(self):
        self.assertEqual(Inn().come(7, 0), [(7, 0)])
        self.assertEqual(Inn().come(-HUGE, HUGE), [(-HUGE, 0)])

    def test_ordinary(self):
        inn = Inn()
        self.assertEqual(inn.come(10, 1), [(10, 0)])
        self.assertEqual(inn.come(20, 2), [(20, 0)])
        self.assertEqual(inn.come(40, 1), [(40, 0), (10, 1)])
        self.assertEqual(inn.come(30, 0), [(30, 0), (30, 1)])
        self.assertEqual(inn.come(50, 0), [(50, 0)])
        self.assertEqual(inn.rooms(), [[50, 40, 20], [30, 10]])

    def test_the_eldest_of_the_upset_goes_on(self):
        inn = inn_of([(3, 0), (2, 1), (1, 2)])
        self.assertEqual(inn.come(9, 0), [(9, 0), (3, 1)])
        self.assertEqual(inn.rooms(), [[9, 2, 1], [3]])
        self.assertEqual(inn.come(8, 1), [(8, 0), (2, 1)])
        self.assertEqual(inn.rooms(), [[9, 8, 1], [3, 2]])

    def test_who_comes_may_go_on_through_all_rooms(self):
        inn = inn_of([(9, 0), (8, 0), (7, 0)])
        self.assertEqual(inn.come(1, 0), [(1, 0), (1, 1), (1, 2), (1, 3)])

    def test_one_behind_the_other(self):
        inn = inn_of([(3, 0), (2, 0), (1, 0)])
        self.assertEqual(inn.come(9, 0), [(9, 0), (3, 1), (2, 2), (1, 3)])

    def test_the_order_of_coming_is_nothing(self):
        for order in permutations(FIVE):
            self.assertEqual(inn_of(order).rooms(), [[50, 40, 20], [30, 10]])

    def test_refused(self):
        inn = inn_of(FIVE)
        for age, patience in ((60, -1), (60, -HUGE), (50, 0), (50, 3), (50, -1), (0, -1)):
            assert_refused(self, NoGuest, (age, patience), inn.come, age, patience)
            assert_as_the_rule(self, inn, dict(FIVE))

    def test_by_name(self):
        inn = Inn()
        self.assertEqual(inn.come(age=5, patience=0), [(5, 0)])
        self.assertEqual(inn.come(patience=0, age=6), [(6, 0), (5, 1)])
        assert_refused(self, NoGuest, (5, 2), inn.come, patience=2, age=5)


class Going(unittest.TestCase):
    def test_nobody_comes_back(self):
        self.assertEqual(inn_of([(7, 0)]).go(7), [])
        self.assertEqual(inn_of([(7, 0), (6, 1)]).go(6), [])
        self.assertEqual(inn_of([(9, 0), (8, 0), (7, 1), (6, 1)]).go(8), [])

    def test_empty_rooms_are_none(self):
        inn = inn_of([(7, 0)])
        inn.go(7)
        self.assertEqual((inn.rooms(), inn.guests(), len(inn)), ([], [], 0))
        inn = inn_of([(9, 0), (8, 0)])
        inn.go(8)
        self.assertEqual(inn.rooms(), [[9]])

    def test_one_behind_the_other(self):
        inn = inn_of([(9, 0), (8, 0), (7, 0), (6, 0)])
        self.assertEqual(inn.go(9), [(8, 0), (7, 1), (6, 2)])
        self.assertEqual(inn.rooms(), [[8], [7], [6]])

    def test_the_eldest_of_those_who_would_bear_it(self):
        # 8 is elder than 6, but does not bear 9.
        inn = inn_of([(9, 1), (8, 0), (7, 1), (6, 1), (5, 2)])
        self.assertEqual(inn.rooms(), [[9, 7, 5], [8, 6]])
        self.assertEqual(inn.go(7), [(6, 0)])
        self.assertEqual(inn.rooms(), [[9, 6, 5], [8]])

    def test_each_room_that_is_left_in_turn(self):
        guests = [(9, 0), (8, 1), (7, 0), (6, 0), (5, 1), (4, 1)]
        inn = inn_of(guests)
        self.assertEqual(inn.rooms(), [[9, 8], [7, 5], [6, 4]])
        self.assertEqual(inn.go(8), [(5, 0), (4, 1)])
        self.assertEqual(inn.rooms(), [[9, 5], [7, 4], [6]])
        self.assertEqual(inn_of(guests).go(5), [(4, 1)])
        self.assertEqual(inn_of(guests).go(7), [(6, 1)])
        self.assertEqual(inn_of(guests).go(4), [])

    def test_refused(self):
        inn = inn_of(FIVE)
        for age in (7, -50, 0, HUGE):
            assert_refused(self, NoGuest, age, inn.go, age)
            assert_as_the_rule(self, inn, dict(FIVE))
        inn.go(50)
        assert_refused(self, NoGuest, 50, inn.go, 50)

    def test_who_went_may_come_again(self):
        inn = inn_of(FIVE)
        inn.go(50)
        inn.come(50, 0)
        assert_as_the_rule(self, inn, dict(FIVE))

    def test_by_name(self):
        self.assertEqual(inn_of([(9, 0), (8, 0)]).go(age=9), [(8, 0)])
        assert_refused(self, NoGuest, 3, Inn().go, age=3)


class Turning(unittest.TestCase):
    def test_both_lists_in_one(self):
        inn = inn_of([(9, 0), (8, 0), (7, 0)])
        self.assertEqual(inn.turn(9, 0), [(8, 0), (7, 1), (9, 0), (8, 1), (7, 2)])
        self.assertEqual(inn.turn(8, 1), [(7, 1), (8, 0)])
        self.assertEqual(inn.rooms(), [[9, 8], [7]])
        self.assertEqual(inn.guests(), [(9, 0), (8, 1), (7, 0)])

    def test_the_only_one(self):
        inn = inn_of([(0, 3)])
        self.assertEqual(inn.turn(0, 0), [(0, 0)])
        self.assertEqual(inn.guests(), [(0, 0)])

    def test_refused(self):
        inn = inn_of(FIVE)
        assert_refused(self, NoGuest, 7, inn.turn, 7, 0)
        assert_refused(self, NoGuest, (50, -1), inn.turn, 50, -1)
        assert_refused(self, NoGuest, (30, -HUGE), inn.turn, 30, -HUGE)
        assert_as_the_rule(self, inn, dict(FIVE))

    def test_an_age_not_there_is_refused_ahead_of_patience(self):
        inn = inn_of(FIVE)
        assert_refused(self, NoGuest, 7, inn.turn, 7, -1)
        assert_refused(self, NoGuest, 0, Inn().turn, 0, -1)

    def test_by_name(self):
        inn = inn_of([(9, 0), (8, 0)])
        self.assertEqual(inn.turn(patience=4, age=8), [(8, 0)])
        assert_refused(self, NoGuest, (8, -4), inn.turn, age=8, patience=-4)


class Asking(unittest.TestCase):
    def test_guests_from_the_eldest_on(self):
        inn = inn_of([(-5, 2), (HUGE, 0), (0, 1), (-HUGE, 9)])
        self.assertEqual(inn.guests(), [(HUGE, 0), (0, 1), (-5, 2), (-HUGE, 9)])
        self.assertEqual({type(guest) for guest in inn.guests()}, {tuple})

    def test_where(self):
        inn = inn_of(FIVE)
        self.assertEqual([inn.where(age) for age in (50, 40, 30, 20, 10)], [0, 0, 1, 0, 1])
        self.assertEqual(inn.where(age=30), 1)
        self.assertIs(type(inn.where(50)), int)

    def test_where_refused(self):
        inn = inn_of(FIVE)
        for age in (7, -HUGE):
            assert_refused(self, NoGuest, age, inn.where, age)
        assert_refused(self, NoGuest, 7, inn.where, age=7)

    def test_two_inns_have_nothing_in_common(self):
        one, other = inn_of(FIVE), inn_of(FIVE)
        one.go(50)
        assert_as_the_rule(self, other, dict(FIVE))


class Equal(unittest.TestCase):
    def test_by_guests(self):
        self.assertTrue(Inn() == Inn())
        self.assertFalse(Inn() != Inn())
        self.assertTrue(inn_of(FIVE) == inn_of(FIVE[::-1]))
        self.assertFalse(inn_of(FIVE) != inn_of(FIVE[::-1]))

    def test_whatever_was_done_ahead(self):
        one, other = inn_of(FIVE), inn_of(FIVE)
        one.come(45, 0)
        self.assertTrue(one != other)
        one.go(45)
        one.turn(30, 5)
        self.assertTrue(one != other)
        one.turn(30, 0)
        self.assertTrue(one == other)

    def test_unlike(self):
        inn = inn_of(FIVE)
        for guests in (FIVE[1:], FIVE + [(7, 0)], FIVE[:-1] + [(10, 2)], FIVE[:-1] + [(11, 1)], []):
            self.assertFalse(inn == inn_of(guests))
            self.assertTrue(inn != inn_of(guests))

    def test_other_guests_in_rooms_of_the_same_ages(self):
        self.assertEqual(inn_of([(2, 0), (1, 1)]).rooms(), inn_of([(2, 5), (1, 1)]).rooms())
        self.assertTrue(inn_of([(2, 0), (1, 1)]) != inn_of([(2, 5), (1, 1)]))

    def test_equal_to_nothing_else(self):
        for inn in (Inn(), inn_of(FIVE)):
            for other in (inn.guests(), inn.rooms(), dict(inn.guests()), len(inn), None, False, "Inn", Likes()):
                self.assertFalse(inn == other)
                self.assertTrue(inn != other)
        self.assertFalse([] == Inn())
        self.assertTrue([] != Inn())

    def test_truths_are_told(self):
        self.assertIs(Inn() == Inn(), True)
        self.assertIs(Inn() == 3, False)
        self.assertIs(Inn() != Inn(), False)
        self.assertIs(Inn() != 3, True)


class Likes:
    """Says that it is equal to anything."""

    def __eq__(self, other):
        return True


class TheAskersOwn(unittest.TestCase):
    def test_told_lists_may_be_changed(self):
        inn = Inn()
        for age, patience in FIVE:
            inn.come(age, patience).clear()
        for told in (inn.guests(), inn.rooms(), inn.rooms()[0], inn.rooms()[1]):
            self.assertIs(type(told), list)
            told.append((99, 0))
            told.pop(0)
        inn.rooms()[0].clear()
        assert_as_the_rule(self, inn, dict(FIVE))
        inn.turn(50, 0).append((1, 1))
        inn.go(10).append((1, 1))
        assert_as_the_rule(self, inn, dict(FIVE[:-1]))

    def test_later_deeds_change_nothing_that_was_told(self):
        inn = inn_of(FIVE)
        told = (inn.guests(), inn.rooms())
        inn.come(60, 0)
        inn.go(50)
        inn.turn(20, 0)
        self.assertEqual(told, (FIVE, [[50, 40, 20], [30, 10]]))


class LongRuns(unittest.TestCase):
    def deed(self, chance, model, ages, most):
        """One deed, chosen by chance: its name and arguments, refused ones too."""
        age = chance.choice(ages)
        if len(model.home) > most and chance.randrange(4):
            age = chance.choice(list(model.home))
        name = chance.choice(["come", "come", "go", "turn"] if len(model.home) <= most else ["go", "turn"])
        patience = chance.choice([-1, 0, 0, 1, 1, 2, 3, 5, 60, HUGE])
        return name, (age,) if name == "go" else (age, patience)

    def refusal(self, model, name, args):
        """What the deed is refused with, or None."""
        there = args[0] in model.home
        if name != "come" and not there:
            return args[0]
        if name != "go" and (args[1] < 0 or (name == "come" and there)):
            return args
        return None

    def run_of_deeds(self, seed, ages, most, many):
        chance, inn, model = Random(seed), Inn(), Model()
        for _ in range(many):
            name, args = self.deed(chance, model, ages, most)
            what = self.refusal(model, name, args)
            if what is not None:
                assert_refused(self, NoGuest, what, getattr(inn, name), *args)
            else:
                before = inn.rooms()
                told = getattr(inn, name)(*args)
                self.assertEqual(told, getattr(model, name)(*args))
                if name != "turn":
                    self.assert_one_out_and_one_in(told, before, inn.rooms())
            self.assertEqual({age: inn.where(age) for age in model.home}, model.home)
            assert_as_the_rule(self, inn, model.patience_of)
            self.assertTrue(inn == inn_of(inn.guests()))

    def assert_one_out_and_one_in(self, told, before, after):
        """Point 4: by each deed at most one goes out of each room and one comes in."""
        numbers = [number for _, number in told]
        self.assertEqual(len(numbers), len(set(numbers)))
        most = max(len(before), len(after))
        padded = zip(before + [[]] * (most - len(before)), after + [[]] * (most - len(after)))
        for was, now in padded:
            self.assertLessEqual(len(set(was) - set(now)), 1)
            self.assertLessEqual(len(set(now) - set(was)), 1)

    def test_few_ages(self):
        for seed in range(20):
            self.run_of_deeds(seed, list(range(-4, 5)), 6, 200)

    def test_sixty_guests(self):
        for seed in range(3):
            self.run_of_deeds(seed, list(range(-40, 40)), 60, 300)

    def test_ages_of_thirty_figures(self):
        ages = [HUGE * sign + k for sign in (-9, 0, 9) for k in range(5)]
        self.run_of_deeds(7, ages, 12, 200)


if __name__ == "__main__":
    unittest.main()
