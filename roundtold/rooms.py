"""What is known of a RING of which it is told that so many rooms at most are there."""

from roundtold.answerable import open_order
from roundtold.errors import CanNot
from roundtold.pairs import is_unlike_pair
from roundtold.questions import answer, wide_of
from roundtold.rings import read


def words_from(wide, begin, size):
    """The ascending list of the WORDS of so many letters that begin with this one, as long or shorter."""
    found = [begin]
    for _ in range(size - len(begin)):
        found = [word + (letter,) for word in found for letter in range(1, wide + 1)]
    return found


def rings_within(wide, word, many):
    """The list of the RINGS of at most many rooms that begin with word, shorter ones first."""
    wanted = tuple(word)
    found = []
    for size in range(1, many + 1):
        rings = words_from(wide, wanted[:size], size)
        found.extend([ring for ring in rings if read(ring, 0, len(wanted)) == wanted])
    return found


def answers_within(question, word, many):
    """The set of the answers of these RINGS."""
    open_order(question)
    return tuple(sorted({answer(question, ring) for ring in rings_within(wide_of(question), word, many)}))


def unlike_within(question, many, steps):
    """A pair of such RINGS with unlike answers of which so many letters are read alike; None if there is none."""
    firsts = {}
    for ring in rings_within(wide_of(question), (), many):
        first = firsts.setdefault(read(ring, 0, steps), ring)
        if answer(question, first) != answer(question, ring):
            return first, ring
    return None


def steps_within(question, many):
    """The least number of letters that tell the answers of RINGS of at most many rooms."""
    steps = 0
    while unlike_within(question, many, steps) is not None:
        steps += 1
    return steps


def sure_within(question, many):
    """The least s such that any two of these RINGS that begin with one WORD of s letters have one answer."""
    open_order(question)
    return steps_within(question, many)


def last_pair(question, many):
    """A pair of such RINGS with unlike answers that begin with one WORD of a letter less."""
    open_order(question)
    steps = steps_within(question, many)
    if steps == 0:
        raise CanNot()
    return unlike_within(question, many, steps - 1)


def is_last_pair(question, many, thing):
    """Whether thing is such a pair."""
    open_order(question)
    if not is_unlike_pair(question, thing) or len(thing[0]) > many or len(thing[1]) > many:
        return False
    # They are unlike: so some letters must be read to tell them.
    steps = steps_within(question, many) - 1
    return read(thing[0], 0, steps) == read(thing[1], 0, steps)
