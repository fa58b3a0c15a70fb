"""An inn in which guests come, go and turn their patience."""

from elderinn.checks import check_newcomer
from elderinn.errors import NoGuest
from elderinn.rooms import eldest_upset


class Inn:
    """The guests who are there, and the rooms they live in."""

    def __init__(self):
        self._patience_of = {}
        self._rooms = []

    def come(self, age, patience):
        """Lets one come; tells who came into which room, one behind the other."""
        check_newcomer(self._patience_of, age, patience)
        self._patience_of[age] = patience
        told = []
        mover = age
        while mover is not None:
            number = len(told)
            self._enter(mover, number)
            told.append((mover, number))
            mover = eldest_upset(self._patience_of, self._rooms[number])
            if mover is not None:
                self._rooms[number].remove(mover)
        return told

    def go(self, age):
        """Lets one go home; tells who came back into which room."""
        number = self.where(age)
        del self._patience_of[age]
        self._rooms[number].remove(age)
        told = []
        mover = self._eldest_back(number)
        while mover is not None:
            left = self.where(mover)
            self._rooms[left].remove(mover)
            self._enter(mover, number)
            told.append((mover, number))
            number = left
            mover = self._eldest_back(number)
        # Everybody bears an empty room, so one that stays empty has none behind it.
        if not self._rooms[number]:
            self._rooms.pop()
        return told

    def turn(self, age, patience):
        """Turns the patience of one who is there, as if they went and came anew."""
        self._check_there(age)
        if patience < 0:
            raise NoGuest((age, patience))
        back = self.go(age)
        return back + self.come(age, patience)

    def guests(self):
        """The guests (age, patience), from the eldest on."""
        ages = sorted(self._patience_of, reverse=True)
        return [(age, self._patience_of[age]) for age in ages]

    def rooms(self):
        """The ages in each room, each room from the eldest on."""
        return [list(room) for room in self._rooms]

    def where(self, age):
        """The number of the room in which one lives."""
        self._check_there(age)
        return [age in room for room in self._rooms].index(True)

    def __len__(self):
        return len(self._patience_of)

    def __eq__(self, other):
        return isinstance(other, Inn) and self._patience_of == other._patience_of

    def __ne__(self, other):
        return not self == other

    def _check_there(self, age):
        """Refuses an age that none has who is there."""
        if age not in self._patience_of:
            raise NoGuest(age)

    def _enter(self, age, number):
        """Puts one into a room, or into a new one behind the last."""
        if number == len(self._rooms):
            self._rooms.append([])
        self._rooms[number] = sorted(self._rooms[number] + [age], reverse=True)

    def _eldest_back(self, number):
        """The eldest of those behind a room who would bear it there, or None."""
        behind = [age for room in self._rooms[number + 1:] for age in room]
        return max([age for age in behind if self._bears(age, number)], default=None)

    def _bears(self, age, number):
        """Whether one has no more elders in a room than they bear."""
        elders = [other for other in self._rooms[number] if other > age]
        return len(elders) <= self._patience_of[age]
