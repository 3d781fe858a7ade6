"""Which words may be said now, with so many left."""

from roundtold.rings import read
from roundtold.rows import open_rows


def may_be_said(rows, lots, said, many, told):
    """Whether the ANSWER told may be said now, or one may be silent if it is None."""
    if told is None or told == said:
        return rows.to_come(lots, said) <= many
    return 1 + rows.to_come(lots, told) <= many


def places_read(order, ring, room, steps):
    """The list of the places of what was read behind each of so many steps; NoPlace if ring has no such room."""
    found = []
    place = 0
    for letter in read(ring, room, steps):
        place = order.steps[place][letter - 1]
        found.append(place)
    return found


def words_to_come(question, stretches, said):
    """The WORDS TO COME."""
    rows = open_rows(question)
    return rows.to_come(rows.left_by(stretches), said)


def row_to_come(question, stretches, said):
    """A ROW of as many LOTS as there are WORDS TO COME, () for none."""
    rows = open_rows(question)
    return rows.longest_row(rows.with_another(rows.left_by(stretches), said))


def is_row_to_come(question, stretches, said, thing):
    """Whether thing is (), or a ROW whose first LOT is left and has another answer than said."""
    rows = open_rows(question)
    if thing == ():
        return True
    return rows.is_row(thing) and thing[0] in rows.with_another(rows.left_by(stretches), said)


def safe(question, stretches, said, many):
    """The set of those answers of RINGS that may be said now."""
    rows = open_rows(question)
    lots = rows.left_by(stretches)
    return tuple(told for told in rows.answers_of(rows.left([])) if may_be_said(rows, lots, said, many, told))


def may_be_silent(question, stretches, said, many):
    """Whether one may be silent."""
    rows = open_rows(question)
    return may_be_said(rows, rows.left_by(stretches), said, many, None)


def plain_says(question, ring, room, steps):
    """The tuple with for each step the answer of the LOT of what was read by then, None if it is not firm."""
    rows = open_rows(question)
    return tuple(rows.answers[rows.order.lots[place]] for place in places_read(rows.order, ring, room, steps))


def slip(question, ring, room, says, many):
    """The number of the first step at which what is said may not be said, or one may not be silent; None for none."""
    rows = open_rows(question)
    said = None
    left = many
    for step, (place, told) in enumerate(zip(places_read(rows.order, ring, room, len(says)), says)):
        if not may_be_said(rows, rows.left([place]), said, left, told):
            return step
        if told is not None and told != said:
            said = told
            left -= 1
    return None
