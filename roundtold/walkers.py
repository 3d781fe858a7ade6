"""WALKERS: what they say on a RING, step by step and at last."""

from roundtold.courses import come_behind, course
from roundtold.errors import CanNot
from roundtold.rings import check_room
from roundtold.values import is_answer, is_machine, is_number, is_pair, is_place


def is_way(thing, many):
    """Whether thing is a pair (STATE, way), with so many STATES."""
    return is_pair(thing) and is_place(thing[0], many) and is_number(thing[1]) and -1 <= thing[1] <= 1


def is_said(thing):
    """Whether thing is an ANSWER or None."""
    return thing is None or is_answer(thing)


def is_walker(thing):
    """Whether thing is a WALKER."""
    return is_machine(thing, is_way, is_said)


def wide_walked(walker):
    """How many letters it reads."""
    return len(walker[0][0])


def goes_on(walker):
    """Whether all its ways are 1."""
    return all([way == 1 for row in walker[0] for _, way in row])


def stepped(walker, ring, now):
    """The triple (room, STATE, SAID) behind one more step."""
    room, state, said = now
    steps, says = walker
    after, way = steps[state][ring[room] - 1]
    told = says[after]
    return (room + way) % len(ring), after, said if told is None else told


def played(walker, ring, room, steps):
    """The tuple of the triples (room, STATE, SAID) behind each of so many steps."""
    check_room(ring, room)
    found = []
    now = (room, 0, None)
    for _ in range(steps):
        now = stepped(walker, ring, now)
        found.append(now)
    return tuple(found)


def walked(walker, ring, room):
    """The course of its triples from room on, the one ahead of the first step too."""
    check_room(ring, room)
    return course((room, 0, None), lambda now: stepped(walker, ring, now))


def words_among(triples):
    """The list of the pairs (place, ANSWER) at which these triples first tell of a word."""
    found = []
    last = None
    for place, triple in enumerate(triples):
        said = triple[2]
        if said != last:
            found.append((place, said))
        last = said
    return found


def settled_words(walker, ring, room):
    """The pairs (steps, ANSWER) of all its words; CanNot if they never end."""
    path, again = walked(walker, ring, room)
    # Where triples come again SAID comes again: it settles if that stays as it is.
    if any([triple[2] != path[again][2] for triple in path[again:]]):
        raise CanNot()
    return words_among(path)


def said_after(walker, ring, room, steps):
    """What was said last behind so many steps."""
    path, again = walked(walker, ring, room)
    return come_behind(path, again, steps)[2]


def words(walker, ring, room, steps):
    """The tuple of its words within so many steps."""
    return tuple(said for _, said in words_among(played(walker, ring, room, steps)))


def settled(walker, ring, room):
    """The ANSWER on which it settles; None if it never says one."""
    told = settled_words(walker, ring, room)
    return told[-1][1] if len(told) > 0 else None


def all_words(walker, ring, room):
    """The tuple of all its words."""
    return tuple(said for _, said in settled_words(walker, ring, room))


def settles_behind(walker, ring, room):
    """The least number of steps behind which no other word comes."""
    told = settled_words(walker, ring, room)
    return told[-1][0] if len(told) > 0 else 0


def mirrored_walker(walker):
    """The WALKER with all ways the other way round."""
    steps, says = walker
    return tuple(tuple((state, -way) for state, way in row) for row in steps), tuple(says)
