"""FOG: what can be answered still if some letters look alike."""

from roundtold.answerable import open_order
from roundtold.courses import course
from roundtold.errors import CanNot, Unfit
from roundtold.order import MOST_DOINGS, least_way, words_by_steps
from roundtold.pairs import is_unlike_pair
from roundtold.questions import answer, come_to, least_question, led, wide_of
from roundtold.rings import is_ring


def is_fog(wide, thing):
    """Whether thing is a FOG of the letters to wide."""
    # As many unlike looks as the greatest one tells: none below it is wanting.
    return is_ring(wide, thing) and len(thing) == wide and len(set(thing)) == max(thing)


def look(fog, word):
    """The look of word."""
    return tuple(fog[letter - 1] for letter in word)


def fog_order(question, fog):
    """The Order of a QUESTION, behind the errors of both."""
    order = open_order(question)
    if len(fog) != wide_of(question):
        raise Unfit()
    return order


def mistaken(order, fog):
    """The list of the pairs of letters with one look, but unlike DOINGS."""
    letters = range(1, len(fog) + 1)
    places = order.steps[0]
    return [
        (one, other) for one in letters for other in letters
        if fog[one - 1] == fog[other - 1] and places[one - 1] < places[other - 1]
    ]


def is_borne(question, fog):
    """Whether no two RINGS with as many rooms and one look have unlike answers."""
    return len(mistaken(fog_order(question, fog), fog)) == 0


def parting_behind(question, one, other):
    """The least WORD, maybe (), behind which these two letters, of unlike DOINGS, have unlike answers."""
    steps, answers = question
    # What stands ahead of the letters may be turned behind them, the QUESTION being open.
    found, pair_steps = come_to(
        (steps[0][one - 1], steps[0][other - 1]), wide_of(question),
        lambda pair, index: (steps[pair[0]][index], steps[pair[1]][index]),
    )
    apart = [place for place, (state, twin) in enumerate(found) if answers[state] != answers[twin]]
    return least_way(pair_steps, apart[0])


def hidden(question, fog):
    """A pair of RINGS with as many rooms, one look and unlike answers."""
    pairs = mistaken(fog_order(question, fog), fog)
    if len(pairs) == 0:
        raise CanNot()
    one, other = pairs[0]
    word = parting_behind(question, one, other)
    return (one,) + word, (other,) + word


def is_hidden(question, fog, thing):
    """Whether thing is such a pair."""
    fog_order(question, fog)
    return is_unlike_pair(question, thing) and look(fog, thing[0]) == look(fog, thing[1])


def looked(order, fog):
    """The pair of the tuples of places of all WORDS with one look, that of () first, and the steps among them."""
    letters = [[at for at, own in enumerate(fog) if own == told] for told in range(1, max(fog) + 1)]

    def follow(places, index):
        return tuple(sorted({order.steps[place][letter] for place in places for letter in letters[index]}))

    return come_to((0,), len(letters), follow, MOST_DOINGS + 1)


def powers_of(steps, at, word):
    """The list of what this WORD, and it again and again, leads to; the first time to what stands here."""
    path, _ = course(at, lambda now: led(steps, now, word))
    return path


def fogged(question, fog):
    """The least QUESTION that answers looks as all RINGS are that look so for ever, blindly if they are not."""
    order = fog_order(question, fog)
    found, steps = looked(order, fog)
    told = [question[1][0]]
    for at, word in list(enumerate(words_by_steps(steps)))[1:]:
        answers = sorted({order.answers[place] for power in powers_of(steps, at, word) for place in found[power]})
        told.append(answers[0] if len(answers) == 1 else max(question[1]) + 1)
    return least_question((steps, tuple(told)))


def veil(question, fog, ring):
    """A RING that looks for ever as ring does, with another answer."""
    order = fog_order(question, fog)
    told = answer(question, ring)
    looks = look(fog, ring)

    def follow(now, index):
        room, place = now
        # A letter of another look leads nowhere.
        return ((room + 1) % len(looks), order.steps[place][index]) if fog[index] == looks[room] else now

    found, steps = come_to((0, 0), len(fog), follow)
    others = [at for at, (room, place) in enumerate(found) if at > 0 and room == 0 and order.answers[place] != told]
    if len(others) == 0:
        raise CanNot()
    return least_way(steps, others[0])


def is_veil(question, fog, ring, thing):
    """Whether thing is such a RING."""
    fog_order(question, fog)
    if not is_ring(wide_of(question), thing) or answer(question, thing) == answer(question, ring):
        return False
    return look(fog, thing) == look(fog, ring) * (len(thing) // len(ring))


def borne_fogs(question):
    """The ascending list of the borne FOGS in which each look comes first behind all lesser ones."""
    order = open_order(question)
    fogs = [()]
    for _ in range(wide_of(question)):
        fogs = [fog + (own,) for fog in fogs for own in range(1, max(fog, default=0) + 2)]
    return [fog for fog in fogs if len(mistaken(order, fog)) == 0]
