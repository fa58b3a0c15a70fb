"""What shows that the rooms by age are as full as any could be."""

from elderinn.checks import check_first, check_newcomer, patience_by_age
from elderinn.rooms import rooms, sizes, upset


def sent_away(guests, j):
    """The fewest ages, from the eldest on, without whom j rooms can be in peace."""
    told = rooms(guests)
    check_first(j)
    return sorted([age for room in told[j:] for age in room], reverse=True)


def is_best(guests, arrangement):
    """Whether an arrangement is in peace, and its rooms as full as can be."""
    if upset(guests, arrangement) is not None:
        return False
    filled = [len(room) for room in arrangement if room]
    return sorted(filled, reverse=True) == sizes(guests)


def pairs(guests):
    """How many pairs of guests share a room."""
    return sum([size * (size - 1) // 2 for size in sizes(guests)])


def one_more(guests, age, patience):
    """The number of the room that is one fuller when one guest more is there."""
    check_newcomer(patience_by_age(guests), age, patience)
    before = sizes(guests)
    after = sizes([*guests, (age, patience)])
    for number, size in enumerate(before):
        if after[number] > size:
            return number
    return len(before)
