"""Point 18: guests, crowds and rooms as texts, and read back."""

import re
import unittest
from copy import deepcopy
from itertools import permutations, product
from random import Random

from elderinn.crowds import crowd_sizes
from elderinn.errors import NoText
from elderinn.readings import read_crowds, read_guests, read_rooms
from elderinn.rooms import rooms
from elderinn.texts import show_crowds, show_guests, show_rooms
from tests.support import assert_refused, forty_crowds, rooms_by_age

FIVE = [(50, 0), (40, 1), (30, 0), (20, 2), (10, 1)]
FIVE_TEXT = "50:0 40:1 30:0 20:2 10:1"
FIVE_ROOMS = [[50, 40, 20], [30, 10]]
MOST = 10 ** 30 - 1
NUMBER = r"(?:0|-?[1-9][0-9]{0,29})"
READERS = (read_guests, read_crowds, read_rooms)


def some_guests(many):
    """So many guests of ages of either sign and of one to thirty figures, in any order."""
    random = Random(18)
    ages = set()
    while len(ages) < many:
        ages.add(random.choice((-1, 1)) * random.randrange(10 ** random.randint(1, 30)))
    told = [(age, random.randrange(10 ** random.randint(1, 30))) for age in sorted(ages)]
    random.shuffle(told)
    return told


def strictly_falls(ages):
    return all(ages[at] > ages[at + 1] for at in range(len(ages) - 1))


def guests_by_form(text):
    """What point 18 says that a text of guests writes, or False where it writes none."""
    if text == "none":
        return []
    if not re.fullmatch(f"{NUMBER}:{NUMBER}( {NUMBER}:{NUMBER})*", text):
        return False
    told = [tuple(map(int, part.split(":"))) for part in text.split(" ")]
    good = strictly_falls([age for age, _ in told]) and all(patience >= 0 for _, patience in told)
    return told if good else False


def crowds_by_form(text):
    """What point 18 says that a text of crowds writes, or False where it writes none."""
    if text == "none":
        return []
    if not re.fullmatch(f"{NUMBER}x{NUMBER}( {NUMBER}x{NUMBER})*", text):
        return False
    told = [tuple(map(int, part.split("x"))) for part in text.split(" ")]
    return told if all(count > 0 and patience >= 0 for count, patience in told) else False


def rooms_by_form(text):
    """What point 18 says that a text of rooms writes, or False where it writes none."""
    if text == "none":
        return []
    room = f"{NUMBER}(?:,{NUMBER})*"
    if not re.fullmatch(f"{room}(?: [|] {room})*", text):
        return False
    told = [[int(age) for age in part.split(",")] for part in text.split(" | ")]
    ages = [age for living in told for age in living]
    return told if all(map(strictly_falls, told)) and len(set(ages)) == len(ages) else False


class Shown(unittest.TestCase):
    def test_guests(self):
        self.assertEqual(show_guests(FIVE), FIVE_TEXT)
        self.assertEqual(show_guests([(0, 0)]), "0:0")
        self.assertEqual(show_guests([]), "none")

    def test_guests_in_any_order_are_shown_from_the_eldest_on(self):
        for guests in permutations(FIVE):
            self.assertEqual(show_guests(list(guests)), FIVE_TEXT)
        self.assertEqual(show_guests([(-10, 1), (9, 0), (-9, 3), (10, 2), (0, 7)]), "10:2 9:0 0:7 -9:3 -10:1")

    def test_numbers_of_thirty_figures(self):
        self.assertEqual(show_guests([(-MOST, MOST), (MOST, 0)]), "9" * 30 + ":0 -" + "9" * 30 + ":" + "9" * 30)
        self.assertEqual(show_crowds([(MOST, MOST)]), "9" * 30 + "x" + "9" * 30)
        self.assertEqual(show_rooms([[MOST, -MOST]]), "9" * 30 + ",-" + "9" * 30)

    def test_crowds(self):
        self.assertEqual(show_crowds([(7, 0), (6, 2), (4, 4)]), "7x0 6x2 4x4")
        self.assertEqual(show_crowds([(4, 4), (7, 0), (4, 4)]), "4x4 7x0 4x4")
        self.assertEqual(show_crowds([(1, 0)]), "1x0")
        self.assertEqual(show_crowds([]), "none")

    def test_rooms(self):
        self.assertEqual(show_rooms(FIVE_ROOMS), "50,40,20 | 30,10")
        self.assertEqual(show_rooms(rooms(FIVE)), "50,40,20 | 30,10")
        self.assertEqual(show_rooms([[-1], [5, 0, -7]]), "-1 | 5,0,-7")
        self.assertEqual(show_rooms([[0]]), "0")
        self.assertEqual(show_rooms([]), "none")

    def test_by_name(self):
        self.assertEqual(show_guests(guests=FIVE), FIVE_TEXT)
        self.assertEqual(show_crowds(crowds=[(7, 0)]), "7x0")
        self.assertEqual(show_rooms(rooms=FIVE_ROOMS), "50,40,20 | 30,10")


class ReadBack(unittest.TestCase):
    def test_guests(self):
        self.assertEqual(read_guests(FIVE_TEXT), FIVE)
        self.assertEqual(read_guests("0:0"), [(0, 0)])
        self.assertEqual(read_guests("-5:3"), [(-5, 3)])
        self.assertEqual(read_guests("none"), [])

    def test_sixty_guests_and_more(self):
        for many in (1, 2, 60, 700):
            guests = some_guests(many)
            text = show_guests(guests)
            self.assertEqual(read_guests(text), sorted(guests)[::-1])
            self.assertEqual(show_guests(read_guests(text)), text)

    def test_crowds(self):
        self.assertEqual(read_crowds("7x0 6x2 4x4"), [(7, 0), (6, 2), (4, 4)])
        self.assertEqual(read_crowds("4x4 7x0 4x4"), [(4, 4), (7, 0), (4, 4)])
        self.assertEqual(read_crowds("1x0"), [(1, 0)])
        self.assertEqual(read_crowds("none"), [])

    def test_forty_crowds_and_more(self):
        for crowds in (forty_crowds(1), forty_crowds(1) * 20, [(MOST, MOST)] * 40):
            self.assertEqual(read_crowds(show_crowds(crowds)), crowds)
        self.assertEqual(crowd_sizes(read_crowds(show_crowds(forty_crowds(1)))), crowd_sizes(forty_crowds(1)))

    def test_rooms(self):
        self.assertEqual(read_rooms("50,40,20 | 30,10"), FIVE_ROOMS)
        self.assertEqual(read_rooms("-1 | 5,0,-7"), [[-1], [5, 0, -7]])
        self.assertEqual(read_rooms("0"), [[0]])
        self.assertEqual(read_rooms("none"), [])

    def test_rooms_of_sixty_guests_and_more(self):
        for many in (1, 2, 60, 700):
            guests = [(age, patience % 9) for age, patience in some_guests(many)]
            told = rooms(guests)
            self.assertEqual(read_rooms(show_rooms(told)), told)
            self.assertEqual(read_rooms(show_rooms(told[::-1])), told[::-1])
        self.assertEqual(read_rooms(show_rooms(rooms_by_age(FIVE))), FIVE_ROOMS)

    def test_rooms_of_any_sizes(self):
        self.assertEqual(read_rooms("1 | 3,2 | 9"), [[1], [3, 2], [9]])

    def test_numbers_of_thirty_figures(self):
        nines = "9" * 30
        self.assertEqual(read_guests(f"{nines}:{nines} -{nines}:0"), [(MOST, MOST), (-MOST, 0)])
        self.assertEqual(read_crowds(f"{nines}x{nines}"), [(MOST, MOST)])
        self.assertEqual(read_rooms(f"{nines},-{nines}"), [[MOST, -MOST]])
        self.assertEqual(read_rooms("1" + "0" * 29), [[10 ** 29]])

    def test_by_name(self):
        self.assertEqual(read_guests(text="5:1"), [(5, 1)])
        self.assertEqual(read_crowds(text="5x1"), [(5, 1)])
        self.assertEqual(read_rooms(text="5,1"), [[5, 1]])
        assert_refused(self, NoText, "", read_rooms, text="")


class WrongTexts(unittest.TestCase):
    def assert_none(self, reader, *texts):
        for text in texts:
            assert_refused(self, NoText, text, reader, text)

    def test_of_no_kind(self):
        for reader in READERS:
            self.assert_none(reader, "", " ", "  ", "None", "NONE", "non", "nonee", "no one", "-", "--", ":", "x", ",",
                             "|", " | ", "a", "1:a", "ax1", "a,b", "1;2", "5.0", "1e3", "1_0", "0x1F", "()", "[]", "~")

    def test_none_with_anything_beside_it(self):
        for reader, other in zip(READERS, ("5:1", "5x1", "5")):
            self.assert_none(reader, "none ", " none", "none none", "nonenone", "none,none", "none | none",
                             f"none {other}", f"{other} none", f"none | {other}", f"{other} | none",
                             f"none,{other}", f"{other},none", "none:0", "nonex0", "-none")

    def test_blanks(self):
        for reader, text in zip(READERS, ("9:1 8:0", "9x1 8x0", "9,8 | 7")):
            self.assert_none(reader, " " + text, text + " ", text.replace(" ", "  "), "  " + text, text + "  ")
        self.assert_none(read_guests, "9 :1", "9: 1", "- 9:1", "9:1, 8:0", "9:1,8:0", "9:1 | 8:0")
        self.assert_none(read_crowds, "9 x1", "9x 1", "9x1, 8x0", "9x1,8x0", "9x1 | 8x0")
        self.assert_none(read_rooms, "9, 8", "9 ,8", "9 8", "9|8", "9| 8", "9 |8", "9  |  8", "9 || 8", "9 | | 8")

    def test_signs_too_many_or_too_few(self):
        self.assert_none(read_guests, "9", ":1", "9:", "9::1", "9:1:", ":9:1", "9:1:2", "9:1 8", "9:1 :8", "9:1 8:",
                         "9:18:0", "9;1", "9x1")
        self.assert_none(read_crowds, "9", "x1", "9x", "9xx1", "9x1x", "x9x1", "9x1x2", "9x1 8", "9x18x0", "9X1", "9*1")
        self.assert_none(read_rooms, ",", "9,", ",9", "9,,8", "9 | ", " | 9", "9 |", "| 9", "9 | 8 | ", "9:1", "9x1")

    def test_noughts_ahead(self):
        self.assert_none(read_guests, "09:1", "9:01", "00:0", "0:00", "-09:1")
        self.assert_none(read_crowds, "09x1", "9x01", "00x0", "9x00")
        self.assert_none(read_rooms, "09", "00", "9,08", "-01", "9 | 08")

    def test_signs_ahead_of_numbers(self):
        self.assert_none(read_guests, "-0:1", "1:-0", "+9:1", "9:+1", "--9:1", "9-:1", "-:1", "9-1:0", "-+9:1")
        self.assert_none(read_crowds, "+9x1", "9x+1", "9x-0", "-0x1", "--9x1", "9x--1")
        self.assert_none(read_rooms, "-0", "+9", "--9", "9-", "-", "9,-0", "9 | +8")

    def test_more_than_thirty_figures(self):
        for many in (31, 32, 4000, 5000):
            long = "1" + "0" * (many - 1)
            self.assert_none(read_guests, long + ":1", "1:" + long, "-" + long + ":1")
            self.assert_none(read_crowds, long + "x1", "1x" + long)
            self.assert_none(read_rooms, long, "-" + long, "9 | " + long, "0" * many)

    def test_figures_beyond_ascii(self):
        for figure in ("\u0663", "\u00b2", "\uff11"):
            self.assert_none(read_guests, figure + ":1", "9:" + figure)
            self.assert_none(read_crowds, figure + "x1", "9x" + figure)
            self.assert_none(read_rooms, figure, "9," + figure)

    def test_line_ends_and_tabs(self):
        for blank in ("\n", "\t", "\r"):
            self.assert_none(read_guests, "9:1" + blank, "9:1" + blank + "8:1", "none" + blank)
            self.assert_none(read_crowds, "9x1" + blank, "9x1" + blank + "8x1", "none" + blank)
            self.assert_none(read_rooms, "9" + blank, "9," + blank + "8", "none" + blank)

    def test_patience_below_zero(self):
        self.assert_none(read_guests, "9:-1", "9:1 8:-3", "9:-" + "9" * 30)
        self.assert_none(read_crowds, "9x-1", "9x1 8x-3")

    def test_guests_not_from_the_eldest_on_or_twice(self):
        self.assert_none(read_guests, "8:1 9:1", "9:1 7:0 8:0", "-9:1 -8:1", "9:1 10:1", "0:0 1:0", "-1:0 0:0")
        self.assert_none(read_guests, "9:1 9:1", "9:1 9:2", "9:1 8:0 8:0", "9:1 8:0 9:1")

    def test_counts_of_zero_and_below(self):
        self.assert_none(read_crowds, "0x1", "0x0", "-1x1", "9x1 0x1", "9x1 -" + "9" * 30 + "x1")

    def test_rooms_that_are_empty_or_hold_an_age_twice_or_in_another_order(self):
        self.assert_none(read_rooms, " | ", "9 |  | 8", "9,8 | ", " | 9,8", " |  | ")
        self.assert_none(read_rooms, "9,9", "9 | 9", "9,8 | 7,8", "9,8 | 7 | 9", "9,8,8")
        self.assert_none(read_rooms, "8,9", "9,7,8", "9 | 7,8", "-9,-8", "-1,0", "9,10")

    def test_of_one_kind_handed_to_another_reader(self):
        texts = {read_guests: ["5:1", FIVE_TEXT, "-5:0"], read_crowds: ["5x1", "7x0 6x2"],
                 read_rooms: ["5", "-5", "50,40,20 | 30,10", "5,4", "5 | 4"]}
        for reader in READERS:
            for other, written in texts.items():
                if other is not reader:
                    self.assert_none(reader, *written)

    def test_four_thousand_signs(self):
        for sign in "0:x,| -~ 9":
            for reader in READERS:
                self.assert_none(reader, sign * 4000)
        self.assert_none(read_guests, "9:1 " * 1000)
        self.assert_none(read_crowds, "9x1 " * 1000)
        self.assert_none(read_rooms, "9 | " * 1000)


class EachTextOfAFewSigns(unittest.TestCase):
    def assert_as_the_form(self, reader, expected, text):
        if expected is False:
            assert_refused(self, NoText, text, reader, text)
        else:
            self.assertEqual(reader(text), expected)

    def test_guests(self):
        for signs in product("012-: ", repeat=5):
            self.assert_as_the_form(read_guests, guests_by_form("".join(signs)), "".join(signs))

    def test_crowds(self):
        for signs in product("012-x ", repeat=5):
            self.assert_as_the_form(read_crowds, crowds_by_form("".join(signs)), "".join(signs))

    def test_rooms(self):
        for signs in product("012-,| ", repeat=5):
            self.assert_as_the_form(read_rooms, rooms_by_form("".join(signs)), "".join(signs))

    def test_a_sign_too_many_too_few_or_another_one(self):
        kinds = ((read_guests, guests_by_form, "12:0 3:14 0:2 -10:5"), (read_crowds, crowds_by_form, "10x0 2x13 1x1"),
                 (read_rooms, rooms_by_form, "21,0,-3 | 10,2 | -14"), (read_guests, guests_by_form, "none"),
                 (read_crowds, crowds_by_form, "none"), (read_rooms, rooms_by_form, "none"))
        for reader, by_form, text in kinds:
            self.assertIsNot(by_form(text), False)
            for at in range(len(text) + 1):
                self.assert_as_the_form(reader, by_form(text[:at] + text[at + 1:]), text[:at] + text[at + 1:])
                for sign in map(chr, range(32, 127)):
                    for rest in (text[at:], text[at + 1:]):
                        other = text[:at] + sign + rest
                        self.assert_as_the_form(reader, by_form(other), other)


class TheAskersOwn(unittest.TestCase):
    def test_what_is_handed_in_stays_as_it_was(self):
        handed = (FIVE[::-1], [(4, 4), (7, 0)], [[30, 10], [50, 40, 20]])
        kept = deepcopy(handed)
        show_guests(handed[0])
        show_crowds(handed[1])
        show_rooms(handed[2])
        self.assertEqual(handed, kept)

    def test_told_lists_may_be_changed(self):
        for reader, text in ((read_guests, "9:1"), (read_crowds, "9x1"), (read_rooms, "9,1")):
            for written in (text, "none"):
                kept = reader(written)
                told = reader(written)
                told.append(7)
                self.assertEqual(reader(written), kept)
        told = read_rooms("9,1")
        told[0].append(0)
        self.assertEqual(read_rooms("9,1"), [[9, 1]])

    def test_kinds(self):
        for told, kind in ((read_guests("9:1"), tuple), (read_crowds("9x1"), tuple), (read_rooms("9,1"), list)):
            self.assertIs(type(told), list)
            self.assertIs(type(told[0]), kind)
            self.assertEqual([type(number) for number in told[0]], [int, int])
        for text in (show_guests([]), show_crowds([]), show_rooms([]), show_guests(FIVE), show_rooms(FIVE_ROOMS)):
            self.assertIs(type(text), str)


if __name__ == "__main__":
    unittest.main()
