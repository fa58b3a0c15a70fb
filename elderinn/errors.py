"""The refusals, each with the value that tells what was refused."""


class InnError(ValueError):
    """Any refusal."""


class NoGuest(InnError):
    """A guest that cannot be one, is there already, or is not there."""

    def __init__(self, what):
        InnError.__init__(self, f"no guest: {what!r}")
        self.what = what


class NoRooms(InnError):
    """A number of rooms, or of guests more, below 0."""

    def __init__(self, what):
        InnError.__init__(self, f"no number to count with: {what!r}")
        self.what = what


class NoRoom(InnError):
    """A room of an arrangement with a wrong age in it; None where an age is left out."""

    def __init__(self, what):
        InnError.__init__(self, f"no room of an arrangement: {what!r}")
        self.what = what


class NoCrowd(InnError):
    """A crowd that cannot be one."""

    def __init__(self, what):
        InnError.__init__(self, f"no crowd: {what!r}")
        self.what = what


class NoText(InnError):
    """A text that writes nothing."""

    def __init__(self, what):
        InnError.__init__(self, f"no text that writes any: {what!r}")
        self.what = what
