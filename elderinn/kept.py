"""The first room as a function of how many live there ahead of the crowds."""

from elderinn.checks import check_crowds, check_first


def kept(crowds, n):
    """How many live in the first room, where n more, elder than all, stay in it."""
    check_crowds(crowds)
    check_first(n)
    return kept_with(crowds, n)


def parting(one, other):
    """The least n with which two lists of crowds do not keep as many; None where they are alike."""
    check_crowds(one)
    check_crowds(other)
    # Between two turns both go on straight, so those who part do so at once behind a turn.
    asked = [0] + [turn + 1 for turn in turns(one) + turns(other)]
    return min([n for n in asked if kept_with(one, n) != kept_with(other, n)], default=None)


def kept_with(crowds, n):
    """How many are kept, where the crowds are none to be refused."""
    told = n
    for count, patience in crowds:
        told = max(told, min(told + count, patience + 1))
    return told


def turns(crowds):
    """Each n from which on kept may begin, or cease, to grow as n does."""
    told = []
    for number, (count, patience) in enumerate(crowds):
        # With these many ahead of it a crowd finds just places for all, or just none.
        for ahead in (patience + 1 - count, patience + 1):
            told.append(least_that_keeps(crowds[:number], ahead))
    return told


def least_that_keeps(crowds, many):
    """The least n with which so many, or more, are kept."""
    least = many
    for count, patience in reversed(crowds):
        if least <= patience + 1:
            least -= count
    return max(0, least)
