"""What the files with checks of any thing share."""

GREATEST_WIDE = 3


def is_number(thing):
    """Whether thing is an int and no bool."""
    return isinstance(thing, int) and not isinstance(thing, bool)


def is_place(thing, many):
    """Whether thing is the number of one of so many places."""
    return is_number(thing) and 0 <= thing < many
