"""What the files with checks of any thing share."""

GREATEST_WIDE = 3


def is_number(thing):
    """Whether thing is an int and no bool."""
    return isinstance(thing, int) and not isinstance(thing, bool)


def is_place(thing, many):
    """Whether thing is the number of one of so many places."""
    return is_number(thing) and 0 <= thing < many


def is_answer(thing):
    """Whether thing is an ANSWER."""
    return is_number(thing) and thing >= 0


def is_pair(thing):
    """Whether thing is a tuple of two."""
    return isinstance(thing, tuple) and len(thing) == 2


def ascends(numbers):
    """Whether each of these numbers is greater than the one ahead of it."""
    return all([one < other for one, other in zip(numbers, numbers[1:])])


def are_answers(thing):
    """Whether thing is a set, not (), of ANSWERS."""
    return isinstance(thing, tuple) and len(thing) > 0 and all(is_answer(told) for told in thing) and ascends(thing)


def is_tuple_of(thing, many, is_part):
    """Whether thing is a tuple of so many parts for each of which is_part(part) is True."""
    return isinstance(thing, tuple) and len(thing) == many and all(is_part(part) for part in thing)


def are_steps(thing, is_step):
    """Whether thing is a tuple, not (), of tuples of as many steps, 1 to 3; is_step(step, many STATES) tells of one."""
    if not isinstance(thing, tuple) or len(thing) == 0 or not isinstance(thing[0], tuple):
        return False
    wide = len(thing[0])

    def is_own_step(step):
        return is_step(step, len(thing))

    return 1 <= wide <= GREATEST_WIDE and all(is_tuple_of(row, wide, is_own_step) for row in thing)


def is_machine(thing, is_step, is_told):
    """Whether thing is a pair of steps and, for each STATE, something for which is_told is True."""
    if not is_pair(thing):
        return False
    steps, told = thing
    return are_steps(steps, is_step) and is_tuple_of(told, len(steps), is_told)
