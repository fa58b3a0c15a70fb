"""Who lives where by the rule by age, and who is upset in an arrangement."""

from elderinn.checks import check_arrangement, check_first, patience_by_age


def rooms(guests):
    """The ages in each room, each room from the eldest on."""
    patience_of = patience_by_age(guests)
    told = []
    for age in sorted(patience_of, reverse=True):
        number = first_borne(told, patience_of[age])
        if number == len(told):
            told.append([])
        told[number].append(age)
    return told


def first_borne(filled, patience):
    """The number of the first room, or of a new one, with no more in it than are borne."""
    for number, room in enumerate(filled):
        if len(room) <= patience:
            return number
    return len(filled)


def sizes(guests):
    """How many live in each room."""
    return [len(room) for room in rooms(guests)]


def in_first(guests, j):
    """How many live in the first j rooms."""
    told = sizes(guests)
    check_first(j)
    return sum(told[:j])


def upset(guests, arrangement):
    """The first (number of the room, age) who has too many elders there; None in peace."""
    patience_of = patience_by_age(guests)
    check_arrangement(patience_of, arrangement)
    for number, room in enumerate(arrangement):
        age = eldest_upset(patience_of, room)
        if age is not None:
            return (number, age)
    return None


def eldest_upset(patience_of, room):
    """The eldest in a room who has more elders there than they bear, or None."""
    for elders, age in enumerate(sorted(room, reverse=True)):
        if elders > patience_of[age]:
            return age
    return None
