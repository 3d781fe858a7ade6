"""QUESTIONS: machines that answer each WORD, compared and made from others."""

from roundtold.errors import CanNot, TooMuch, Unfit
from roundtold.values import is_answer, is_machine, is_place


def is_question(thing):
    """Whether thing is a QUESTION."""
    return is_machine(thing, is_place, is_answer)


def wide_of(question):
    """How many letters it reads."""
    return len(question[0][0])


def led(steps, state, word):
    """The STATE to which word leads from this STATE."""
    for letter in word:
        state = steps[state][letter - 1]
    return state


def state_after(question, word):
    """The STATE to which word leads from STATE 0."""
    return led(question[0], 0, word)


def answer(question, word):
    """The answer of word."""
    if len(word) == 0:
        raise Unfit()
    return question[1][state_after(question, word)]


def come_to(start, wide, follow, most=None):
    """The pair of all that letters lead to from start, ordered by least WORDS, and the steps between their places.

    follow(thing, index) is where the letter index + 1 leads from thing. TooMuch if there are more than most.
    """
    found = [start]
    places = {start: 0}
    steps = []
    while len(steps) < len(found):
        row = [follow(found[len(steps)], index) for index in range(wide)]
        for thing in row:
            if thing not in places:
                places[thing] = len(found)
                found.append(thing)
        # Looked at on the way: all that there is may be too much to be found.
        if most is not None and len(found) > most:
            raise TooMuch()
        steps.append(tuple(places[thing] for thing in row))
    return found, tuple(steps)


def numbered(things):
    """The list with for each thing a number, the same for equal ones alone."""
    numbers = {}
    return [numbers.setdefault(thing, len(numbers)) for thing in things]


def state_kinds(question):
    """The list with for each STATE a number, the same for those from which each WORD, () too, has one answer."""
    steps, answers = question
    kinds = numbered(answers)
    many = 0
    # Kinds only part, so they stay as they are once they are not more than before.
    while len(set(kinds)) > many:
        many = len(set(kinds))
        kinds = numbered([(kinds[at], tuple(kinds[state] for state in row)) for at, row in enumerate(steps)])
    return kinds


def least_question(question):
    """The QUESTION with the fewest STATES and the same answers of all WORDS, () too."""
    steps, answers = question
    kinds = state_kinds(question)
    holders = {kind: state for state, kind in enumerate(kinds)}
    found, least_steps = come_to(
        kinds[0], wide_of(question), lambda kind, index: kinds[steps[holders[kind]][index]]
    )
    return least_steps, tuple(answers[holders[kind]] for kind in found)


def check_as_wide(one, other):
    """Unfit if one does not read as many letters as other."""
    if wide_of(one) != wide_of(other):
        raise Unfit()


def least_parting(one, other):
    """The least WORD, not (), that they answer unlike; None if there is none."""
    seen = set()
    # () itself is not seen: the STATES 0 count only if a longer WORD leads to them.
    reached = [((), 0, 0)]
    while len(reached) > 0:
        longer = []
        for word, state, twin in reached:
            for index in range(wide_of(one)):
                after, twin_after = one[0][state][index], other[0][twin][index]
                if one[1][after] != other[1][twin_after]:
                    return word + (index + 1,)
                if (after, twin_after) not in seen:
                    seen.add((after, twin_after))
                    longer.append((word + (index + 1,), after, twin_after))
        reached = longer
    return None


def are_alike(one, other):
    """Whether they have one answer for all WORDS, not ()."""
    check_as_wide(one, other)
    return least_parting(one, other) is None


def parting(one, other):
    """The least WORD, not (), that they answer unlike."""
    check_as_wide(one, other)
    word = least_parting(one, other)
    if word is None:
        raise CanNot()
    return word


def joined(one, other):
    """The least QUESTION whose answers are 10 times those of one and those of other added."""
    check_as_wide(one, other)
    found, steps = come_to(
        (0, 0), wide_of(one), lambda pair, index: (one[0][pair[0]][index], other[0][pair[1]][index])
    )
    return least_question((steps, tuple(10 * one[1][state] + other[1][twin] for state, twin in found)))


def renamed(question, answers):
    """The QUESTION with answers[a] in the place of each ANSWER a."""
    steps, own_answers = question
    if max(own_answers) >= len(answers):
        raise Unfit()
    return tuple(tuple(row) for row in steps), tuple(answers[own] for own in own_answers)


def turned_about(question):
    """The least QUESTION that answers each WORD as question answers it read from its end."""
    steps, answers = least_question(question)
    # What letters lead to here is the tuple with for each STATE the answer if what
    # was read is gone through backwards from there. All STATES can be come to, so
    # unlike tuples part at some WORD: the result is least as it is.
    found, turned_steps = come_to(
        answers, wide_of(question), lambda told, index: tuple(told[row[index]] for row in steps)
    )
    return turned_steps, tuple(own[0] for own in found)
