"""What several test files need: refusals, the rule by age, arrangements."""

from copy import deepcopy
from itertools import product
from random import Random

from elderinn.errors import InnError, NoCrowd, NoGuest, NoRoom, NoRooms, NoText

REFUSALS = (NoGuest, NoRooms, NoRoom, NoCrowd, NoText)


def assert_refusal(case, error, kind, what):
    """That an error is of this refusal's class and no other one's, with its value."""
    case.assertIs(type(error), kind)
    case.assertIsInstance(error, InnError)
    case.assertIsInstance(error, ValueError)
    for other in REFUSALS:
        case.assertEqual(isinstance(error, other), other is kind)
    case.assertEqual(error.what, what)
    case.assertIs(type(error.what), type(what))


def assert_refused(case, kind, what, call, *args, **named):
    """That a call is refused so, and leaves its arguments as they were."""
    kept = deepcopy((args, named))
    with case.assertRaises(ValueError) as caught:
        call(*args, **named)
    assert_refusal(case, caught.exception, kind, what)
    case.assertEqual((args, named), kept)


def homes_by_age(guests):
    """The rule of point 6, worked out by counting: the room of each age."""
    home = {}
    for age, patience in sorted(guests)[::-1]:
        room = 0
        while list(home.values()).count(room) > patience:
            room += 1
        home[age] = room
    return home


def rooms_of_homes(home):
    """The lists of ages in each room, each from the eldest on."""
    many = max(home.values(), default=-1) + 1
    return [sorted([age for age in home if home[age] == room])[::-1] for room in range(many)]


def rooms_by_age(guests):
    return rooms_of_homes(homes_by_age(guests))


def upset_in(patience_of, room):
    """All in a room who have more elders there than they bear."""
    return [age for age in room if sum(other > age for other in room) > patience_of[age]]


def partitions(ages):
    """Every way to put the ages into rooms, whatever the order of the rooms."""
    if not ages:
        yield []
        return
    for rest in partitions(ages[1:]):
        yield [[ages[0]]] + rest
        for at, room in enumerate(rest):
            yield rest[:at] + [[ages[0]] + room] + rest[at + 1:]


def peaceful(guests):
    """Every arrangement in peace."""
    patience_of = dict(guests)
    return [told for told in partitions(list(patience_of))
            if not any(upset_in(patience_of, room) for room in told)]


def greatest_first(arrangement):
    return sorted([len(room) for room in arrangement if room])[::-1]


def written_out(crowds):
    """The guests of crowds one by one, from the eldest on."""
    patiences = [patience for count, patience in crowds for _ in range(count)]
    return [(len(patiences) - nth, patience) for nth, patience in enumerate(patiences)]


def small_crowds(many, most):
    """All lists of so many crowds, with counts from 1 and patience from 0 to the most."""
    kinds = list(product(range(1, most + 1), range(most + 1)))
    return [list(crowds) for crowds in product(kinds, repeat=many)]


def forty_crowds(seed):
    """Forty crowds with counts of thirty figures and patience of one to thirty figures."""
    random = Random(seed)
    return [(random.randrange(10 ** 29, 10 ** 30), random.randrange(10 ** random.randint(1, 30)))
            for _ in range(40)]


def parted(crowds):
    """The same guests, with each crowd of more than one parted in two."""
    return [part for count, patience in crowds
            for part in ([(count, patience)] if count == 1 else [(1, patience), (count - 1, patience)])]
