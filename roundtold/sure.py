"""When one is sure of an answer, and may stop."""

from roundtold.errors import CanNot
from roundtold.rings import check_room
from roundtold.rows import open_rows


def check_sure(rows, ring):
    """CanNot if ring is not sure."""
    if rows.ring_grade(ring) > 1:
        raise CanNot()


def steps_to_sure(rows, ring, room):
    """The least number of letters to be read from room on that are sure, ring being so."""
    return rows.order.steps_until(ring, room, lambda place: rows.one_answer(rows.left([place])) is not None)


def sure_of(question, stretches):
    """The ANSWER of which STRETCHES are sure; None if of none."""
    rows = open_rows(question)
    return rows.one_answer(rows.left_by(stretches))


def is_sure_ring(question, ring):
    """Whether ring is sure."""
    return open_rows(question).ring_grade(ring) == 1


def sure_behind(question, ring, room):
    """The least number of letters read from room on that are sure."""
    rows = open_rows(question)
    check_room(ring, room)
    check_sure(rows, ring)
    return steps_to_sure(rows, ring, room)


def latest_sure(question, ring):
    """The pair of the greatest of these numbers over all rooms and the least room that has it."""
    rows = open_rows(question)
    check_sure(rows, ring)
    steps = [steps_to_sure(rows, ring, room) for room in range(len(ring))]
    return max(steps), steps.index(max(steps))


def surest(question):
    """The set of the answers of sure RINGS."""
    rows = open_rows(question)
    return tuple(rows.answers_of([lot for lot in rows.left([]) if rows.grades[lot] == 1]))


def least_sure(question, answer):
    """The least WORD that is sure of answer."""
    rows = open_rows(question)
    for place, word in enumerate(rows.order.words):
        if rows.one_answer(rows.left([place])) == answer:
            return word
    raise CanNot()
