"""What is gained if something is promised of the RING."""

from roundtold.answerable import is_open, open_order
from roundtold.errors import CanNot
from roundtold.questions import answer, is_question, joined
from roundtold.rows import Rows
from roundtold.safe import may_be_said
from roundtold.values import are_answers, is_pair


def answers_by(order, question):
    """The list with for each LOT of both together the answer of its RINGS by one of them, None if it is not firm."""
    return [None if place is None else answer(question, order.words[place]) for place in order.idempotents]


def told_of(answers):
    """The ascending list of the answers that some LOT has."""
    return sorted({told for told in answers if told is not None})


def kept_rows(order, question, promise):
    """The Rows of the LOTS of both together whose RINGS keep the promise."""
    other, kept = promise
    own_answers, other_answers = answers_by(order, question), answers_by(order, other)
    return Rows(order, [told if own in kept else None for told, own in zip(own_answers, other_answers)])


def promised_rows(question, promise):
    """The Rows of the kept LOTS, behind all errors."""
    open_order(question)
    return kept_rows(open_order(joined(question, promise[0])), question, promise)


def is_promise(thing):
    """Whether thing is a PROMISE."""
    return is_pair(thing) and is_question(thing[0]) and are_answers(thing[1]) and is_open(thing[0])


def kept_lots(question, promise):
    """The set of the numbers of the kept LOTS."""
    return tuple(promised_rows(question, promise).left([]))


def promised_swing(question, promise):
    """The greatest promised GRADE; 0 if no RING keeps the promise."""
    return promised_rows(question, promise).swing()


def promised_grade(question, promise, ring):
    """The promised GRADE of the LOT of ring."""
    found = promised_rows(question, promise).ring_grade(ring)
    if found is None:
        raise CanNot()
    return found


def promised_safe(question, promise, stretches, said, many):
    """The set of those answers of RINGS that may be said now if only RINGS that keep the promise are looked at."""
    rows = promised_rows(question, promise)
    lots = rows.left_by(stretches)
    every = told_of(answers_by(rows.order, question))
    return tuple(told for told in every if may_be_said(rows, lots, said, many, told))


def promised_sure(question, promise, stretches):
    """The answer of all RINGS that still may be and keep the promise; None if they have not one."""
    rows = promised_rows(question, promise)
    return rows.one_answer(rows.left_by(stretches))


def lowers(question, other):
    """The tuple with for each answer by other the pair of it and the SWING that is promised with it."""
    open_order(question)
    open_order(other)
    order = open_order(joined(question, other))
    every = told_of(answers_by(order, other))
    return tuple((told, kept_rows(order, question, (other, (told,))).swing()) for told in every)
