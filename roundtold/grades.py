"""GRADES: how many words must be said at worst, from a RING on."""

from roundtold.errors import Unfit
from roundtold.rows import open_rows


def firm_rows(question, lot):
    """The Rows of a QUESTION, behind all checks of a LOT that should be firm."""
    rows = open_rows(question)
    rows.order.check_lot(lot)
    if rows.grades[lot] is None:
        raise Unfit()
    return rows


def grade(question, lot):
    """The GRADE of this firm LOT."""
    return firm_rows(question, lot).grades[lot]


def grades(question):
    """The tuple with for each LOT its GRADE, None if it is not firm."""
    return tuple(open_rows(question).grades)


def ring_grade(question, ring):
    """The GRADE of the LOT of ring."""
    return open_rows(question).ring_grade(ring)


def swing(question):
    """The greatest GRADE."""
    return open_rows(question).swing()


def row(question, lot):
    """The least of the longest ROWS that begin with this firm LOT."""
    return firm_rows(question, lot).least_row(lot)


def greatest_row(question):
    """The least of the longest ROWS."""
    rows = open_rows(question)
    return rows.longest_row(rows.left([]))


def is_row(question, thing):
    """Whether thing is a ROW."""
    return open_rows(question).is_row(thing)


def rows_from(question, answer):
    """The greatest length of a ROW that begins with a LOT of this answer; 0 if none has it."""
    rows = open_rows(question)
    return rows.greatest([lot for lot in rows.left([]) if rows.answers[lot] == answer])
