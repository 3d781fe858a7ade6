"""QUESTIONS that several tests are about."""

import itertools

from roundtold.questions import joined, least_question, renamed
from tests import oracle
from tests.helper import questions_of

ONE = (((0,),), (7,))
ONE_WIDE = (((0, 0, 0),), (0,))
SOME = (((0, 1), (1, 1)), (0, 1))
ODD = (((0, 1), (1, 0)), (0, 1))
FIRST = (((1, 2), (1, 1), (2, 2)), (0, 1, 0))
LATE = (((1, 2), (1, 2), (2, 2)), (5, 0, 1))
GREATEST = (((0, 1, 2), (1, 1, 2), (2, 2, 2)), (0, 1, 0))
# Two letters or more.
TWO = (((1,), (2,), (2,)), (0, 0, 1))
# How many letters there are, counted to five; and round six.
COUNTED = (((1,), (2,), (3,), (4,), (5,), (5,)), (0, 1, 2, 3, 4, 9))
ROUND = (((1,), (2,), (3,), (4,), (5,), (0,)), (0, 0, 0, 0, 0, 1))
# Two 2s stand side by side, round the ring; somewhere 1 stands behind 1.
SIDE = (((1, 3), (1, 2), (1, 5), (4, 5), (4, 3), (5, 5)), (0, 0, 0, 1, 0, 1))
BESIDE = (((1, 2), (5, 3), (4, 2), (1, 3), (5, 2), (5, 5)), (0, 1, 0, 0, 0, 1))
# STATES 1, 3, 4 are never come to; 0, 2 and 5 are: 5 answers as 0 does.
LOST = (((2, 2), (3, 1), (5, 2), (3, 4), (0, 0), (2, 2)), (0, 8, 1, 9, 9, 0))
# 1 if a 2 stands somewhere, else 2 if a 3 does, else 0.
RANKS = (((0, 1, 2), (1, 1, 1), (2, 1, 2)), (0, 1, 2))
EITHER = (((0, 1, 1), (1, 1, 1)), (0, 1))
BOTH = (((0, 1, 2), (1, 1, 3), (2, 3, 2), (3, 3, 3)), (0, 0, 0, 1))
MIXED = (((1, 2), (1, 3), (3, 2), (3, 3)), (0, 0, 0, 1))
# The letter behind the first one is 2: not of rings.
SECOND = (((1, 1), (3, 2), (2, 2), (3, 3)), (0, 0, 1, 0))

# As many DOINGS as are worked with, and one more.
MUCH = (((1, 0, 0), (2, 3, 3), (0, 4, 3), (2, 1, 4), (3, 1, 4)), (0, 4, 1, 2, 3))
TOO_MUCH = (((1, 2), (3, 4), (5, 4), (2, 2), (3, 5), (2, 3)), (0, 5, 1, 3, 4, 2))

SMALL = [own for many in (1, 2) for own in questions_of(many, 2, 2)]
MIDDLE = list(itertools.islice(questions_of(3, 2, 2), 0, None, 37)) + list(questions_of(3, 1, 3))
SIX_STATES = [COUNTED, ROUND, SIDE, LOST, BESIDE]


def lot_question(question, names):
    """The QUESTION that answers each RING with the name of its LOT: it is open, whatever question is."""
    words = oracle.least_words(question)
    places = {doing: place for place, doing in enumerate(words, 1)}
    letters = oracle.letters_of(question)
    rows = [[places[letter] for letter in letters]]
    rows += [[places[oracle.composed(doing, letter)] for letter in letters] for doing in words]
    answers = [0] + [names[oracle.lot_of_ring(question, word)] for word in words.values()]
    return least_question((rows, answers))


OPEN = [ONE, ONE_WIDE, SOME, GREATEST, SIDE, BESIDE, RANKS, EITHER, BOTH, MIXED]


def machine(start, wide, follow, answer):
    """The QUESTION whose STATES are all that follow(state, letter) leads to, each with its answer(state)."""
    states, rows = [start], []
    for state in states:
        row = [follow(state, letter) for letter in range(1, wide + 1)]
        states.extend(own for own in dict.fromkeys(row) if own not in states)
        rows.append(row)
    return tuple(tuple(states.index(own) for own in row) for row in rows), tuple(answer(own) for own in states)


def has(word, wide):
    """Whether word stands somewhere in a WORD, its end aside."""
    def follow(seen, letter):
        longer = seen + (letter,)
        return word if seen == word else max(word[:size] for size in range(len(word) + 1)
                                             if longer[len(longer) - size:] == word[:size])
    return machine((), wide, follow, lambda seen: 1 if seen == word else 0)


def ring_has(word, wide):
    """Whether word is read in a RING from some room on."""
    question = has(word, wide)
    every = range(len(oracle.lots(question)))
    # The LOT of those that have it is under all others.
    last = [lot for lot in every if all(oracle.lot_under(question, lot, other) for other in every)]
    return lot_question(question, [1 if [lot] == last else 0 for lot in every])


def ones(many):
    """Whether so many 1s are read in a RING of 1s and 2s from some room on, in a row."""
    def follow(state, letter):
        # How many 1s stand at the front, how many at the end, None if no 2 stands.
        front, end = state
        if front >= many or (end or 0) >= many:
            return many, None
        if end is None:
            return (front + 1, None) if letter == 1 else (front, 0)
        return front, end + 1 if letter == 1 else 0

    def answer(state):
        front, end = state
        return 1 if front >= many or (front > 0 and end is None) or (end is not None and front + end >= many) else 0
    return machine((0, None), 2, follow, answer)


def parted(one, other):
    """The QUESTION that answers as one if no 3 stands, else 2 more than other, to which a 3 is a 1, other letters a 2."""
    def follow(state, letter):
        here, there, seen = state
        return (one[0][here][letter - 1] if not seen and letter < 3 else 0,
                other[0][there][0 if letter == 3 else 1], seen or letter == 3)
    return machine((0, 0, False), 3, follow,
                   lambda state: 2 + other[1][state[1]] if state[2] else one[1][state[0]])


def with_blank(question):
    """The QUESTION with one more letter, that changes nothing."""
    return tuple((*row, state) for state, row in enumerate(question[0])), question[1]


# Open ones with as many DOINGS as are worked with, and one more.
LARGE = parted(ones(13), ones(4))
TOO_LARGE = parted(ones(13), ring_has((1, 1, 2, 1), 2))

# Open ones with LOTS that are not firm, with more answers, with more STATES than six.
MADE = [
    ring_has((1, 1, 1), 2), ring_has((1, 1, 2), 2), ring_has((1, 2, 2), 2), joined(SIDE, BESIDE), renamed(BOTH, (9, 3)),
    lot_question(has((1, 2, 1), 2), (0, 1, 2, 0)), lot_question(has((1, 2, 2, 1), 2), (1, 2, 0, 1)),
    lot_question(joined(RANKS, BOTH), (0, 1, 2, 0, 3, 1, 0, 2)), lot_question(joined(GREATEST, EITHER), (1, 0, 1)),
    # LOTS that are not firm are under one that is: that of the blanks.
    with_blank(ring_has((1, 1, 2), 2)),
    lot_question(joined(has((2, 1), 2), has((1, 1), 2)), (0, 1, 1, 0, 2, 0, 1, 0, 0, 1)),
]
