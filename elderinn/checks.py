"""What is handed in is asked here, once for all files, whether it is refused."""

from elderinn.errors import NoCrowd, NoGuest, NoRoom, NoRooms


def patience_by_age(guests):
    """The patience of each age, where no guest is refused."""
    patience_of = {}
    for number, (age, patience) in enumerate(guests):
        if patience < 0 or age in patience_of:
            raise NoGuest(number)
        patience_of[age] = patience
    return patience_of


def check_newcomer(patience_of, age, patience):
    """Refuses who cannot come where those of patience_of are."""
    if patience < 0 or age in patience_of:
        raise NoGuest((age, patience))


def check_first(j):
    """Refuses a number of first rooms, or of guests more, below 0."""
    if j < 0:
        raise NoRooms(j)


def check_arrangement(patience_of, arrangement):
    """Refuses rooms in which not just the ages of patience_of stand, once each."""
    seen = set()
    for number, room in enumerate(arrangement):
        for age in room:
            if age not in patience_of or age in seen:
                raise NoRoom(number)
            seen.add(age)
    if len(seen) < len(patience_of):
        raise NoRoom(None)


def is_crowd(count, patience):
    """Whether so many of this patience can be a crowd."""
    return count >= 1 and patience >= 0


def check_crowds(crowds):
    """Refuses the first of them that cannot be a crowd."""
    for number, (count, patience) in enumerate(crowds):
        if not is_crowd(count, patience):
            raise NoCrowd(number)
