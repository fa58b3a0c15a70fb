"""Crowds of any size: rooms of one size are counted together, never one by one."""

from elderinn.checks import check_crowds, check_first
from elderinn.errors import NoGuest


def crowd_sizes(crowds):
    """(size, how many rooms) for each size there is, the greatest first."""
    check_crowds(crowds)
    filled = []
    for count, patience in crowds:
        filled = after_crowd(filled, count, patience)
    return filled


def crowd_in_first(crowds, j):
    """How many live in the first j rooms."""
    filled = crowd_sizes(crowds)
    check_first(j)
    told = 0
    left = j
    for size, many in filled:
        counted = min(many, left)
        told += counted * size
        left -= counted
    return told


def room_of(crowds, m):
    """The number of the room in which the m-th from the eldest on lives."""
    check_crowds(crowds)
    if m < 1:
        raise NoGuest(m)
    filled = []
    nth = m
    for count, patience in crowds:
        if nth <= count:
            return room_of_nth(filled, patience, nth)
        filled = after_crowd(filled, count, patience)
        nth -= count
    raise NoGuest(m)


def room_of_nth(filled, patience, nth):
    """The number of the room into which the nth of a crowd of this patience goes."""
    number = 0
    left = nth
    for size, many in filled:
        borne = places(size, patience)
        if left <= many * borne:
            return number + (left - 1) // borne
        left -= many * borne
        number += many
    return number + (left - 1) // places(0, patience)


def after_crowd(filled, count, patience):
    """The rooms (size, how many), from the fullest on, when a crowd has come."""
    many_of = {}
    left = count
    # Each who comes opens one new room at most, so no more empty ones are needed.
    for size, many in [*filled, (0, count)]:
        taken = min(left, many * places(size, patience))
        left -= taken
        for grown, alike in grown_rooms(size, many, patience, taken):
            many_of[grown] = many_of.get(grown, 0) + alike
    return sorted([(size, many) for size, many in many_of.items() if size > 0 and many > 0], reverse=True)


def places(size, patience):
    """How many of a crowd go into a room of this size until they bear no more."""
    return max(0, patience + 1 - size)


def grown_rooms(size, many, patience, taken):
    """What rooms of one size become when so many of a crowd fill one after the other."""
    if taken == 0:
        return [(size, many)]
    full, rest = divmod(taken, places(size, patience))
    if rest == 0:
        return [(patience + 1, full), (size, many - full)]
    return [(patience + 1, full), (size + rest, 1), (size, many - full - 1)]
