"""Guests, crowds and rooms, read back from their texts."""

from elderinn.checks import is_crowd
from elderinn.errors import NoText

MOST_FIGURES = 30


def read_guests(text):
    """The guests that a text writes, from the eldest on."""
    guests = read_twos(text, ":")
    if not falls([age for age, _ in guests]) or any([patience < 0 for _, patience in guests]):
        raise NoText(text)
    return guests


def read_crowds(text):
    """The crowds that a text writes."""
    crowds = read_twos(text, "x")
    if not all([is_crowd(count, patience) for count, patience in crowds]):
        raise NoText(text)
    return crowds


def read_rooms(text):
    """The rooms that a text writes."""
    rooms = [read_numbers(text, part, ",") for part in parts_of(text, " | ")]
    ages = [age for room in rooms for age in room]
    if not all([falls(room) for room in rooms]) or len(set(ages)) < len(ages):
        raise NoText(text)
    return rooms


def read_twos(text, sign):
    """The tuples of two numbers, with a sign between them, that a text has between blanks."""
    told = []
    for part in parts_of(text, " "):
        numbers = read_numbers(text, part, sign)
        if len(numbers) != 2:
            raise NoText(text)
        told.append((numbers[0], numbers[1]))
    return told


def parts_of(text, between):
    """The parts of a text, or none."""
    if text == "none":
        return []
    return text.split(between)


def read_numbers(text, part, sign):
    """The numbers that a part of a text has, with a sign between them."""
    words = part.split(sign)
    if not all([is_number(word) for word in words]):
        raise NoText(text)
    return [int(word) for word in words]


def is_number(word):
    """Whether a word is a number just as it would be written."""
    figures = word.removeprefix("-")
    if len(figures) > MOST_FIGURES or not (figures.isascii() and figures.isdigit()):
        return False
    return str(int(word)) == word


def falls(ages):
    """Whether each age is less than the one ahead of it."""
    return all([younger < elder for elder, younger in zip(ages, ages[1:])])
