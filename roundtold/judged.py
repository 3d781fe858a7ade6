"""WALKERS judged for all RINGS and rooms, and RINGS told on which they must say so many words."""

from roundtold.answerable import open_order
from roundtold.courses import course
from roundtold.errors import CanNot, Unfit
from roundtold.order import all_below, least_way
from roundtold.pairs import is_ring_and_room
from roundtold.questions import answer, come_to, wide_of
from roundtold.rings import is_ring, is_word
from roundtold.rows import open_rows
from roundtold.still import sides
from roundtold.values import is_pair
from roundtold.walkers import all_words, goes_on, settles_behind, wide_walked

MOST_PAIRS = 20000
SEVERAL = 2


def check_as_wide_walked(question, walker):
    """Unfit if walker reads other letters than question."""
    if wide_walked(walker) != wide_of(question):
        raise Unfit()


def check_goes_on(walker):
    """Unfit if walker does not go on."""
    if not goes_on(walker):
        raise Unfit()


def told_behind(walker, now, index):
    """The triple (STATE, many, told) behind one more letter: 0, 1 or SEVERAL ANSWERS were said, told is the last."""
    steps, says = walker
    state, many, told = now
    after, _ = steps[state][index]
    said = says[after]
    if said is None:
        return after, many, told
    return after, 1 if many == 0 or (many == 1 and told == said) else SEVERAL, said


def all_kinds(order, walker):
    """The pairs of a DOING and a kind as come_to tells them, that of () first; TooMuch if they are too many."""
    start = tuple((state, 0, None) for state in range(len(walker[0])))
    return come_to(
        (0, start), wide_walked(walker),
        lambda pair, index: (order.steps[pair[0]][index], tuple([told_behind(walker, now, index) for now in pair[1]])),
        MOST_PAIRS + 1,
    )


def settled_by(kind):
    """The ANSWER on which a WALKER settles if a WORD of this kind is read again and again; None for none."""
    path, again = course(0, lambda state: kind[state][0])
    said = [kind[state][1:] for state in path[again:]]
    round_told = sorted({told for many, told in said if many > 0})
    if len(round_told) > 1 or SEVERAL in [many for many, _ in said]:
        return None
    ahead = [kind[state][2] for state in path[:again] if kind[state][1] > 0]
    # What is said round and round is said last; if nothing is, what was said ahead stays.
    return (ahead + round_told)[-1] if len(ahead + round_told) > 0 else None


def wrong_ring(question, walker):
    """The least RING on which walker does not settle on the answer; None if there is none; behind all errors."""
    order = open_order(question)
    check_as_wide_walked(question, walker)
    check_goes_on(walker)
    found, steps = all_kinds(order, walker)
    for at, (place, kind) in enumerate(found):
        if at > 0 and settled_by(kind) != order.answers[place]:
            return least_way(steps, at)
    return None


def is_beaten(question, walker, ring, room, many):
    """Whether walker does not settle on the answer of ring from room on, or says so many words; many may be None."""
    try:
        told = all_words(walker, ring, room)
    except CanNot:
        return True
    return told[-1:] != (answer(question, ring),) or (many is not None and len(told) >= many)


def is_right(question, walker):
    """Whether walker is right for question."""
    return wrong_ring(question, walker) is None


def wrong(question, walker):
    """The least RING on which walker does not settle on the answer."""
    ring = wrong_ring(question, walker)
    if ring is None:
        raise CanNot()
    return ring


def is_wrong(question, walker, thing):
    """Whether thing is a pair of a RING and a room from which walker does not settle on the answer."""
    open_order(question)
    check_as_wide_walked(question, walker)
    if not is_ring_and_room(wide_of(question), thing):
        return False
    ring, room = thing
    return is_beaten(question, walker, ring, room, None)


def said_behind(walker, now, index):
    """The pair of STATE and SAID behind one more letter."""
    steps, says = walker
    state, said = now
    after, _ = steps[state][index]
    return after, said if says[after] is None else says[after]


def all_said(walker):
    """The pairs of STATE and SAID as come_to tells them; Unfit if walker does not go on."""
    check_goes_on(walker)
    return come_to((0, None), wide_walked(walker), lambda now, index: said_behind(walker, now, index))


def endless(found, steps):
    """The triple (place, index, place) of a step that says a word and can come again; None if there is none."""
    below = all_below(steps)
    for place, row in enumerate(steps):
        for index, after in enumerate(row):
            if found[place][1] != found[after][1] and (below[after] >> place) & 1 == 1:
                return place, index, after
    return None


def most_on_ways(found, steps):
    """The greatest number of words on a way from place 0 on, none of which can come again."""
    most = [0] * len(found)
    changed = True
    while changed:
        changed = False
        for place, row in enumerate(steps):
            for after in row:
                many = most[place] + (1 if found[place][1] != found[after][1] else 0)
                if many > most[after]:
                    most[after] = many
                    changed = True
    return max(most)


def most_words(walker):
    """The greatest number of words that walker says on a RING; None if there is none."""
    found, steps = all_said(walker)
    return most_on_ways(found, steps) if endless(found, steps) is None else None


def pump(walker):
    """A pair of WORDS: behind the first one and behind both walker is as it was, and it says some word on the way."""
    found, steps = all_said(walker)
    again = endless(found, steps)
    if again is None:
        raise CanNot()
    place, index, after = again
    behind, behind_steps = come_to(found[after], wide_walked(walker), lambda now, at: said_behind(walker, now, at))
    return least_way(steps, place), (index + 1,) + least_way(behind_steps, behind.index(found[place]))


def said_along(walker, now, word):
    """The list of the pairs of STATE and SAID, now and behind each letter of word."""
    found = [now]
    for letter in word:
        found.append(said_behind(walker, found[-1], letter - 1))
    return found


def is_pump(walker, thing):
    """Whether thing is such a pair."""
    check_goes_on(walker)
    wide = wide_walked(walker)
    if not is_pair(thing) or not is_word(wide, thing[0]) or not is_ring(wide, thing[1]):
        return False
    begin = said_along(walker, (0, None), thing[0])[-1]
    path = said_along(walker, begin, thing[1])
    return path[-1] == begin and any([said != begin[1] for _, said in path])


def seen_until_settled(walker, ring, room):
    """The pair of the WORD of all rooms that walker comes to until it has said its last word, and its room there."""
    steps, _ = walker
    state = 0
    place = room
    places = []
    for _ in range(settles_behind(walker, ring, room)):
        places.append(place)
        state, way = steps[state][ring[place % len(ring)] - 1]
        place += way
    return tuple(ring[at % len(ring)] for at in range(min(places), max(places) + 1)), room - min(places)


def against(question, walker):
    """A pair of a RING and a room from which walker does not settle on the answer, or says SWING words."""
    rows = open_rows(question)
    check_as_wide_walked(question, walker)
    row = rows.longest_row(rows.left([]))
    seen, room, ring = (), 0, ()
    # Each LOT of the ROW is under the one ahead: all that walker saw there can be seen in a RING of the next one, too.
    for lot in row:
        ahead, behind = sides(rows.order, rows.order.place_of(seen), rows.order.idempotents[lot])
        ring = ahead + seen + behind
        room = (len(ahead) + room) % len(ring)
        if is_beaten(question, walker, ring, room, len(row)):
            break
        seen, room = seen_until_settled(walker, ring, room)
    return ring, room


def is_against(question, walker, thing):
    """Whether thing is such a pair."""
    rows = open_rows(question)
    check_as_wide_walked(question, walker)
    if not is_ring_and_room(wide_of(question), thing):
        return False
    ring, room = thing
    return is_beaten(question, walker, ring, room, rows.swing())
