"""Pairs of RINGS, and of a RING and a room, as any thing may be one."""

from roundtold.questions import answer, wide_of
from roundtold.rings import is_ring
from roundtold.values import is_pair, is_place


def is_unlike_pair(question, thing):
    """Whether thing is a pair of RINGS of letters that question reads, with unlike answers."""
    wide = wide_of(question)
    if not is_pair(thing) or not is_ring(wide, thing[0]) or not is_ring(wide, thing[1]):
        return False
    return answer(question, thing[0]) != answer(question, thing[1])


def is_ring_and_room(wide, thing):
    """Whether thing is a pair of a RING of letters to wide and the number of a room of it."""
    return is_pair(thing) and is_ring(wide, thing[0]) and is_place(thing[1], len(thing[0]))
