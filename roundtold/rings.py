"""WORDS and RINGS: turned, read, and told apart."""

from roundtold.errors import CanNot, NoPlace
from roundtold.values import is_number


def is_word(wide, thing):
    """Whether thing is a WORD of letters to wide."""
    return isinstance(thing, tuple) and all(is_number(letter) and 1 <= letter <= wide for letter in thing)


def is_ring(wide, thing):
    """Whether thing is a RING of letters to wide."""
    return is_word(wide, thing) and len(thing) > 0


def turned(ring, number):
    """The RING told from room number on, round the ring."""
    rooms = tuple(ring)
    begin = number % len(rooms)
    return rooms[begin:] + rooms[:begin]


def least_turned(ring):
    """The least of all turned ones."""
    return min([turned(ring, room) for room in range(len(ring))])


def are_turned(one, other):
    """Whether other is one turned by some number."""
    return least_turned(one) == least_turned(other)


def root(ring):
    """The pair (WORD, n): the shortest WORD of which ring is a power, and which power it is."""
    rooms = tuple(ring)
    size = 1
    # The least number by which a RING turns into itself divides its rooms.
    while turned(rooms, size) != rooms:
        size += 1
    return rooms[:size], len(rooms) // size


def check_room(ring, room):
    """NoPlace if the ring has no such room."""
    if not 0 <= room < len(ring):
        raise NoPlace(room)


def letter_at(ring, room, step):
    """The letter that is read behind step others from room on."""
    check_room(ring, room)
    return ring[(room + step) % len(ring)]


def read(ring, room, steps):
    """The WORD of so many letters that is read from room on."""
    check_room(ring, room)
    return tuple(ring[(room + step) % len(ring)] for step in range(steps))


def look_alike(one, other):
    """Whether both are alike, read for ever from room 0."""
    first, second = tuple(one), tuple(other)
    # Just powers of one WORD can change places.
    return first + second == second + first


def first_apart(one, other):
    """The least number of a letter at which they are unlike, read from room 0."""
    if look_alike(one, other):
        raise CanNot()
    step = 0
    while letter_at(one, 0, step) == letter_at(other, 0, step):
        step += 1
    return step
