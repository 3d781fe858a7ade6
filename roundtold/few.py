"""Which RINGS so many words can serve, and the WALKER that serves them."""

from roundtold.errors import CanNot
from roundtold.questions import least_question, wide_of
from roundtold.rings import check_room, is_ring
from roundtold.rows import open_rows
from roundtold.still import may_be, ring_with


def unserved_among(rows, lots, many):
    """The list of those of these LOTS that so many words do not serve."""
    return [lot for lot in lots if rows.grades[lot] > many]


def served(question, many):
    """The set of the numbers of the firm LOTS that are served by many words."""
    rows = open_rows(question)
    return tuple(lot for lot in rows.left([]) if rows.grades[lot] <= many)


def serves(question, many, ring):
    """Whether ring is served by many words."""
    return open_rows(question).ring_grade(ring) <= many


def unserved(question, many, stretches):
    """A RING that still may be, but is not served."""
    rows = open_rows(question)
    found = unserved_among(rows, rows.left_by(stretches), many)
    if len(found) == 0:
        raise CanNot()
    return ring_with(rows.order, stretches, found[0])


def is_unserved(question, many, stretches, thing):
    """Whether thing is such a RING."""
    rows = open_rows(question)
    return is_ring(wide_of(question), thing) and may_be(stretches, thing) and rows.ring_grade(thing) > many


def speaks_behind(question, many, ring, room):
    """The least number of steps behind which each RING that still may be is served."""
    rows = open_rows(question)
    check_room(ring, room)
    if rows.ring_grade(ring) > many:
        raise CanNot()
    return rows.order.steps_until(ring, room, lambda place: len(unserved_among(rows, rows.left([place]), many)) == 0)


def walker_for(question, many):
    """A WALKER that goes on, serves all RINGS that many words can serve, and says nothing on others."""
    rows = open_rows(question)
    # It says the answer of the LOT of what it read if that is served: 0 is nothing here, each ANSWER one more.
    told = [0] + [
        rows.answers[lot] + 1 if rows.grades[lot] is not None and rows.grades[lot] <= many else 0
        for lot in rows.order.lots[1:]
    ]
    steps, codes = least_question((rows.order.steps, told))
    return (
        tuple(tuple((state, 1) for state in row) for row in steps),
        tuple(None if code == 0 else code - 1 for code in codes),
    )
