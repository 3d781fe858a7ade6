"""Which RINGS still may be when STRETCHES were read, and which LOTS they have."""

from roundtold.answerable import answers_of_lots, open_order
from roundtold.errors import CanNot
from roundtold.questions import wide_of
from roundtold.rings import is_ring, read


def lots_left_in(order, stretches):
    """The list of the numbers of the firm LOTS of RINGS that still may be."""
    return order.firm_under(order.places_of(stretches))


def sides(order, start, goal):
    """The WORDS that are put ahead of a WORD and behind it: its DOING, at the place start, comes to that at goal."""
    grown = {start: ((), ())}
    places = [start]
    done = 0
    while goal not in grown:
        place = places[done]
        done += 1
        ahead, behind = grown[place]
        longer = [(ahead, behind + (index + 1,)) for index in range(len(order.steps[place]))]
        longer += [((index + 1,) + ahead, behind) for index in range(len(order.steps[place]))]
        for after, own in zip(order.steps[place] + order.ahead[place], longer):
            if after not in grown:
                grown[after] = own
                places.append(after)
    return grown[goal]


def filled(order, word, goal):
    """A WORD with word in it whose DOING stands at the place goal, one that is under that of word."""
    ahead, behind = sides(order, order.place_of(word), goal)
    return ahead + tuple(word) + behind


def ring_with(order, stretches, lot):
    """A RING of this LOT, one that is left, in which all these STRETCHES can be read."""
    # Of a d that is d d many have its DOING all together, too.
    goal = order.idempotents[lot]
    ring = ()
    for stretch in [own for own in stretches if len(own) > 0] or [()]:
        ring = ring + filled(order, stretch, goal)
    return ring


def lots_left(question, stretches):
    """The set of the numbers of the firm LOTS of RINGS that still may be."""
    return tuple(lots_left_in(open_order(question), stretches))


def answers_left(question, stretches):
    """The set of the answers of the RINGS that still may be."""
    order = open_order(question)
    answers = answers_of_lots(order)
    return tuple(sorted({answers[lot] for lot in lots_left_in(order, stretches)}))


def ring_left(question, stretches, lot):
    """A RING that still may be and has the LOT of this number."""
    order = open_order(question)
    order.check_lot(lot)
    if lot not in lots_left_in(order, stretches):
        raise CanNot()
    return ring_with(order, stretches, lot)


def is_ring_left(question, stretches, lot, thing):
    """Whether thing is such a RING."""
    order = open_order(question)
    order.check_lot(lot)
    return is_ring(wide_of(question), thing) and may_be(stretches, thing) and order.lot_of_ring(thing) == lot


def can_be_read(stretch, ring):
    """Whether this WORD is read in ring from some room on."""
    return any([read(ring, room, len(stretch)) == tuple(stretch) for room in range(len(ring))])


def may_be(stretches, ring):
    """Whether each stretch can be read in ring."""
    return all([can_be_read(stretch, ring) for stretch in stretches])
