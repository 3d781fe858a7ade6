"""The errors that the functions of the package raise."""


class NoPlace(LookupError):
    """There is no such place: no room, no LOT of this number."""

    def __init__(self, place):
        self.place = place


class BadText(ValueError):
    """A text does not read; line is the first bad one, counted from 1."""

    def __init__(self, line):
        self.line = line


class CanNot(ValueError):
    """What is asked for does not exist."""


class TooMuch(ValueError):
    """A QUESTION has more DOINGS than are worked with."""


class Unfit(ValueError):
    """The arguments do not go together, or not with this function."""
