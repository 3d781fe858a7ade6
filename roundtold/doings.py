"""DOINGS and LOTS: what a WORD does to a QUESTION, whatever was read ahead of it."""

from roundtold.errors import CanNot, Unfit
from roundtold.order import Order, composed


def doing_of(question, word):
    """The DOING of word."""
    order = Order(question)
    if len(word) == 0:
        raise Unfit()
    return order.doings[order.place_of(word)]


def then(one, other):
    """What is done by one and then by other."""
    return composed(one, other)


def doings(question):
    """The set of all DOINGS."""
    return tuple(sorted(Order(question).doings[1:]))


def word_for(question, doing):
    """The least WORD that has this DOING."""
    order = Order(question)
    place = order.place_of_doing(doing)
    if place is None:
        raise CanNot()
    return order.words[place]


def is_under(question, one, other):
    """Whether the DOING one is under the DOING other."""
    order = Order(question)
    place, other_place = order.place_of_doing(one), order.place_of_doing(other)
    if place is None or other_place is None:
        raise Unfit()
    return order.is_under(place, other_place)


def lots(question):
    """The tuple of the LOTS, each the set of its DOINGS."""
    order = Order(question)
    members = [[] for _ in order.firsts]
    for place in range(1, len(order.doings)):
        members[order.lots[place]].append(order.doings[place])
    return tuple(tuple(sorted(own)) for own in members)


def lot_of(question, doing):
    """The number of the LOT that has doing."""
    order = Order(question)
    place = order.place_of_doing(doing)
    if place is None:
        raise Unfit()
    return order.lots[place]


def lots_under(question, lot):
    """The set of the numbers of all LOTS under this one, it too."""
    order = Order(question)
    order.check_lot(lot)
    return tuple(order.lots_under([order.firsts[lot]]))


def is_firm(question, lot):
    """Whether the LOT of this number is firm."""
    order = Order(question)
    order.check_lot(lot)
    return order.idempotents[lot] is not None


def firm_lots(question):
    """The set of the numbers of the firm LOTS."""
    return tuple(Order(question).firm_under([]))


def ring_lot(question, ring):
    """The number of the LOT of ring."""
    return Order(question).lot_of_ring(ring)


def least_ring(question, lot):
    """The least RING of which this is the LOT."""
    order = Order(question)
    order.check_lot(lot)
    if order.idempotents[lot] is None:
        raise Unfit()
    # The LOT of a RING is told by its DOING, and places are ordered by least WORDS.
    places = range(1, len(order.doings))
    return [order.words[place] for place in places if order.lots[order.last_power(place)] == lot][0]
