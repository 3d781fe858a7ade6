"""What sections 3, 6 and 9 say, worked out as they say it: slow, and apart from the functions that are tested."""

import functools

from roundtold.questions import least_question
from tests.helper import words_to


def composed(one, other):
    return tuple(other[state] for state in one)


def letters_of(question):
    """The DOINGS of the letters alone."""
    steps = least_question(question)[0]
    return [tuple(row[index] for row in steps) for index in range(len(steps[0]))]


def doing_of(question, word):
    """The DOING of a WORD, not (), letter by letter."""
    letters = letters_of(question)
    return functools.reduce(composed, [letters[letter - 1] for letter in word])


@functools.lru_cache(maxsize=None)
def all_doings(question):
    """The DOINGS: letters, and what is done by two of them, until there are no more."""
    found = set(letters_of(question))
    while True:
        more = found | {composed(one, other) for one in found for other in found}
        if more == found:
            return frozenset(found)
        found = more


@functools.lru_cache(maxsize=None)
def least_words(question):
    """The dict with for each DOING its least WORD: all WORDS are looked at, shorter ones first."""
    wanted, found, size = len(all_doings(question)), {}, 0
    while len(found) < wanted:
        size += 1
        for word in words_to(len(question[0][0]), size, size):
            found.setdefault(doing_of(question, word), word)
    return found


@functools.lru_cache(maxsize=None)
def under(question, other):
    """All that is under the DOING other."""
    every = all_doings(question)
    ahead = {composed(one, other) for one in every} | {other}
    return frozenset(ahead | {composed(one, own) for one in ahead for own in every})


@functools.lru_cache(maxsize=None)
def lots(question):
    """The LOTS as sets, in the order of their least WORDS."""
    words, found = least_words(question), []
    for one in sorted(words, key=lambda own: (len(words[own]), words[own])):
        like = {other for other in words if other in under(question, one) and one in under(question, other)}
        if like not in found:
            found.append(like)
    return [frozenset(own) for own in found]


def firm(question):
    """The numbers of the firm LOTS."""
    return [lot for lot, own in enumerate(lots(question)) if any(composed(one, one) == one for one in own)]


def lot_under(question, lot, other):
    """Whether the LOT is under the other one, some DOING of one under some of the other."""
    return min(lots(question)[lot]) in under(question, min(lots(question)[other]))


def lot_of_doing(question, doing):
    return [lot for lot, own in enumerate(lots(question)) if doing in own][0]


@functools.lru_cache(maxsize=None)
def lot_of_ring(question, ring):
    """The LOT of the DOING of x^n for some great n."""
    doing = power = doing_of(question, ring)
    for _ in range(99):
        power = composed(power, doing)
    return lot_of_doing(question, power)


def reads(ring, word):
    """Whether word is read in ring from some room on."""
    return any(all(ring[(room + step) % len(ring)] == letter for step, letter in enumerate(word))
               for room in range(len(ring)))


def may_be(stretches, ring):
    return all(reads(ring, word) for word in stretches)


@functools.lru_cache(maxsize=None)
def answer(question, word):
    """The answer of a WORD, not ()."""
    state = 0
    for letter in word:
        state = question[0][state][letter - 1]
    return question[1][state]


def lots_left(question, stretches):
    """The firm LOTS under the DOING of each stretch, () aside: what the guarantee of section 9 tells."""
    told = [doing_of(question, word) for word in stretches if len(word) > 0]
    return [lot for lot in firm(question) if all(min(lots(question)[lot]) in under(question, doing) for doing in told)]


def to_come(question, stretches, said):
    """The WORDS TO COME."""
    longest = longest_rows(question)
    return max([len(longest[lot][0]) for lot in lots_left(question, stretches) if answer_of_lot(question, lot) != said],
               default=0)


@functools.lru_cache(maxsize=None)
def longest_rows(question):
    """The dict with for each firm LOT the list of the longest ROWS that begin with it, all being tried."""
    answers = {lot: answer_of_lot(question, lot) for lot in firm(question)}
    found = {}
    for lot in answers:
        rows = [(lot,)]
        while rows:
            found[lot] = rows
            rows = [row + (other,) for row in rows for other in answers
                    if answers[other] != answers[row[-1]] and lot_under(question, other, row[-1])]
    return found


@functools.lru_cache(maxsize=None)
def answer_of_lot(question, lot):
    """The answer of a firm LOT: that of some RING of it."""
    words = least_words(question)
    own = lots(question)[lot]
    return [answer(question, words[one]) for one in words if one in own and composed(one, one) == one][0]
