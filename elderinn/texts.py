"""Guests, crowds and rooms, written as texts."""


def show_guests(guests):
    """Guests as a text, from the eldest on."""
    return " ".join([f"{age}:{patience}" for age, patience in sorted(guests, reverse=True)]) or "none"


def show_crowds(crowds):
    """Crowds as a text."""
    return " ".join([f"{count}x{patience}" for count, patience in crowds]) or "none"


def show_rooms(rooms):
    """Rooms as a text."""
    return " | ".join([",".join([str(age) for age in room]) for room in rooms]) or "none"
