"""Point 15: fog."""

import itertools
import unittest

from roundtold.answerable import is_open
from roundtold.errors import CanNot, TooMuch, Unfit
from roundtold.fog import (
    borne_fogs, fogged, hidden, is_borne, is_fog, is_hidden, is_veil, look, veil,
)
from roundtold.grades import ring_grade
from roundtold.questions import is_question, least_question
from roundtold.safe import safe, words_to_come
from roundtold.still import answers_left
from tests import oracle
from tests.helper import Case, words_to
from tests.samples import (
    BESIDE, BOTH, COUNTED, EITHER, FIRST, GREATEST, LARGE, MADE, MIXED, MUCH, ODD, ONE, ONE_WIDE, OPEN, RANKS, SIDE, SOME,
    TOO_LARGE, TOO_MUCH, TWO, ones, parted, ring_has, with_blank,
)

# As many sets of DOINGS that look alike as are worked with, and one more.
MOST_SETS = parted(ones(9), ring_has((1, 1, 2, 2), 2))
TOO_MANY_SETS = parted(ones(9), ones(2))
FOGS = {wide: [fog for fog in itertools.product(range(1, wide + 1), repeat=wide) if set(fog) == set(range(1, max(fog) + 1))]
        for wide in (1, 2, 3)}
RINGS = {1: words_to(1, 4, 1), 2: words_to(2, 4, 1), 3: words_to(3, 3, 1)}
# Whether a 3 stands and no 1: behind a 1 no letter does anything.
SPOILT = (((1, 0, 2), (1, 1, 1), (1, 2, 2)), (0, 0, 1))
QUESTIONS = OPEN + MADE + [SPOILT]


def width(question):
    return len(question[0][0])


def looks(fog, word):
    return tuple(fog[letter - 1] for letter in word)


def words_that_look(fog, told):
    """All WORDS with this look."""
    return itertools.product(*[[letter for letter, own in enumerate(fog, 1) if own == part] for part in told])


def answers_of_look(question, fog, told):
    """The answers of all RINGS whose look is this one, however often told."""
    letters = oracle.letters_of(question)
    parts = [[letters[at] for at, own in enumerate(fog) if own == part] for part in told]
    round_doings = set(parts[0])
    for part in parts[1:]:
        round_doings = {oracle.composed(one, other) for one in round_doings for other in part}
    powers, now = [], frozenset(round_doings)
    while now not in powers:
        powers.append(now)
        now = frozenset(oracle.composed(one, other) for one in now for other in round_doings)
    answers = least_question(question)[1]
    return {answers[doing[0]] for power in powers for doing in power}


def many_sets(question, fog):
    """How many sets there are of the DOINGS of all WORDS of one look."""
    letters = oracle.letters_of(question)
    parts = [[letters[at] for at, own in enumerate(fog) if own == part] for part in range(1, max(fog) + 1)]
    found = [frozenset(part) for part in parts]
    for now in found:
        longer = [frozenset(oracle.composed(one, other) for one in now for other in part) for part in parts]
        found.extend(own for own in dict.fromkeys(longer) if own not in found)
    return len(set(found))


class IsFog(Case):
    def test_is_fog(self):
        for wide, thing, so in (
            (3, (1, 2, 2), True), (3, (2, 1, 2), True), (3, (1, 3, 3), False), (3, (1, 1), False), (3, (1, 1, 1), True), (3, (3, 1, 2), True),
            (3, (2, 2, 2), False), (3, (2, 3, 3), False), (3, (1, 2, 4), False), (3, (0, 1, 2), False), (3, (1, 1, 0), False),
            (3, (1, 2, 3, 3), False), (2, (1, 2), True), (2, (2, 1), True), (2, (1, 1), True), (2, (2, 2), False), (2, (1, 3), False),
            (2, (1,), False), (1, (1,), True), (1, (2,), False), (1, (), False), (1, (1, 1), False), (1, (0,), False), (2, [1, 2], False),
            (2, (True, 2), False), (2, (1, True), False), (2, (1, None), False), (2, (1, "2"), False), (2, "12", False), (2, None, False),
            (2, 12, False), (2, ((1,), 2), False), (2, (1, (2,)), False), (1, True, False), (1, [], False), (3, (1, 2, 10 ** 30), False),
            (2, (-1, 1), False), (3, (1, 2) * 500, False),
        ):
            self.gives(so, is_fog, wide, thing)

    def test_as_it_is_said(self):
        for wide in (1, 2, 3):
            for size in range(5):
                for thing in itertools.product(range(5), repeat=size):
                    so = size == wide and set(thing) == set(range(1, max(thing) + 1))
                    self.same(is_fog(wide, thing), so)

    def test_nested_deep(self):
        thing = ()
        for _ in range(99):
            thing = (thing,)
        for own in (thing, (1, thing[0])):
            self.gives(False, is_fog, 2, own)

    def test_look(self):
        for fog, word, want in (((1, 2, 2), (3, 1, 2), (2, 1, 2)), ((1, 1), (1, 2, 2), (1, 1, 1)), ((2, 1), (), ()), ((2, 1, 3), (3,), (3,)),
                                ((1,), (1,) * 60, (1,) * 60), ((2, 1), (1, 2) * 30, (2, 1) * 30)):
            self.gives(want, look, fog, word)


class Borne(Case):
    def test_is_borne(self):
        for question, fog, so in (
            (EITHER, (1, 2, 2), True), (EITHER, (1, 1, 2), False), (EITHER, (2, 1, 1), True), (EITHER, (1, 2, 3), True),
            (EITHER, (1, 1, 1), False), (MIXED, (1, 1), False), (MIXED, (2, 1), True), (ONE_WIDE, (1, 1, 1), True), (ONE, (1,), True),
            (GREATEST, (1, 2, 1), False), (GREATEST, (2, 2, 1), False), (with_blank(SOME), (1, 2, 1), True), (with_blank(SOME), (1, 2, 2), False),
            (BOTH, (1, 2, 2), False), (LARGE, (1, 2, 3), True), (LARGE, (1, 2, 2), False), (SPOILT, (1, 2, 2), False), (SPOILT, (1, 1, 2), False),
            (SPOILT, (1, 2, 3), True),
        ):
            self.gives(so, is_borne, question, fog)

    def test_as_rings_tell(self):
        for question in QUESTIONS:
            for fog in FOGS[width(question)]:
                told = {}
                for ring in words_to(width(question), 5 if width(question) < 3 else 4, 1):
                    told.setdefault(looks(fog, ring), set()).add(oracle.answer(question, ring))
                some = any(len(own) > 1 for own in told.values())
                if some:
                    self.same(is_borne(question, fog), False)
                # Borne exactly if letters of one look have one DOING, exactly if fogged is blind nowhere.
                letters = oracle.letters_of(question)
                one = all(letters[at] == letters[to] for at in range(len(fog)) for to in range(len(fog)) if fog[at] == fog[to])
                self.same(is_borne(question, fog), one)
                self.same(max(question[1]) + 1 not in fogged(question, fog)[1][1:], one)

    def test_hidden(self):
        for question in QUESTIONS + [LARGE]:
            for fog in FOGS[width(question)]:
                if is_borne(question, fog):
                    self.assertRaises(CanNot, hidden, question, fog)
                    continue
                one, other = hidden(question, fog)
                self.assertTrue(one and set(one + other) <= set(range(1, width(question) + 1)))
                self.same(looks(fog, one), looks(fog, other))
                self.assertNotEqual(oracle.answer(question, one), oracle.answer(question, other))
                self.same(is_hidden(question, fog, (one, other)), True)

    def test_hidden_again(self):
        for question, fog in ((EITHER, (1, 1, 2)), (SIDE, (1, 1)), (BOTH, (1, 2, 2))):
            pair = hidden(question, fog)
            self.assertTrue(isinstance(pair, tuple) and all(isinstance(ring, tuple) for ring in pair))
            self.gives(pair, hidden, question, fog)
            self.gives(True, is_hidden, question, fog, pair)

    def test_nothing_is_hidden(self):
        for question, fog in ((EITHER, (1, 2, 2)), (MIXED, (1, 2)), (ONE, (1,)), (ONE_WIDE, (1, 1, 1)), (with_blank(SIDE), (1, 2, 3))):
            self.refuses(CanNot(), hidden, question, fog)
            for thing in (((1,), (1,)), ((1, 1), (1,)), None):
                self.gives(False, is_hidden, question, fog, thing)

    def test_is_hidden(self):
        for fog, thing, so in (
            ((1, 1), ((1, 1), (2, 1)), True), ((1, 1), ((2, 1), (1, 1)), True), ((1, 1), ((1,), (2, 1)), False), ((1, 1), ((1, 1), (2, 2)), False),
            ((1, 1), ((1, 2), (2, 1)), False), ((1, 2), ((1, 1), (2, 1)), False), ((1, 1), [(1, 1), (2, 1)], False),
            ((1, 1), ((1, 1), [2, 1]), False), ((1, 1), ((1, 1), (2, 1), (1, 1)), False), ((1, 1), ((1, 1),), False), ((1, 1), ((), ()), False),
            ((1, 1), ((1, 1), (3, 1)), False), ((1, 1), ((1, 1), (2, True)), False), ((1, 1), ((1, 1), (2, 0)), False), ((1, 1), None, False),
            ((1, 1), (), False), ((1, 1), (1, 2), False), ((1, 1), ((1, 1), None), False), ((1, 1), "12", False), ((1, 1), True, False),
            ((1, 1), ((1,) * 900, (1,) * 899 + (2,)), True), ((1, 1), ((), (2, 1)), False),
        ):
            self.gives(so, is_hidden, MIXED, fog, thing)

    def test_is_hidden_as_it_is_said(self):
        for question in (EITHER, MIXED, SIDE):
            for fog in FOGS[width(question)]:
                for one, other in itertools.product(RINGS[width(question)][::3], repeat=2):
                    so = looks(fog, one) == looks(fog, other) and oracle.answer(question, one) != oracle.answer(question, other)
                    self.same(is_hidden(question, fog, (one, other)), so)

    def test_borne_fogs(self):
        for question, want in (
            (EITHER, [(1, 2, 2), (1, 2, 3)]), (MIXED, [(1, 2)]), (ONE, [(1,)]), (GREATEST, [(1, 2, 3)]), (with_blank(SOME), [(1, 2, 1), (1, 2, 3)]),
            (ONE_WIDE, [(1, 1, 1), (1, 1, 2), (1, 2, 1), (1, 2, 2), (1, 2, 3)]), ((((0, 0),), (3,)), [(1, 1), (1, 2)]), (BOTH, [(1, 2, 3)]),
            ((((0, 0, 1), (1, 1, 1)), (0, 1)), [(1, 1, 2), (1, 2, 3)]), (LARGE, [(1, 2, 3)]),
        ):
            self.gives(want, borne_fogs, question)

    def test_borne_fogs_are_all_that_are(self):
        for question in QUESTIONS:
            fogs = [fog for fog in FOGS[width(question)] if is_borne(question, fog)
                    and all(set(range(1, own)) <= set(fog[:fog.index(own)]) for own in fog)]
            self.same(borne_fogs(question), fogs)
            # One makes alike whatever any of them does.
            for fog, (one, other) in itertools.product(fogs, itertools.product(range(width(question)), repeat=2)):
                if fog[one] == fog[other]:
                    self.same(fogs[0][one], fogs[0][other])

    def test_borne_it_costs_nothing(self):
        for question in QUESTIONS:
            wide = width(question)
            for fog in FOGS[wide]:
                if not is_borne(question, fog):
                    continue
                own = fogged(question, fog)
                for ring in RINGS[wide][::4]:
                    self.same(ring_grade(own, looks(fog, ring)), ring_grade(question, ring))
                for stretches in (((),), ((1,),), ((1, wide), (wide,))):
                    seen = tuple(looks(fog, word) for word in stretches)
                    self.same(answers_left(own, seen), answers_left(question, stretches))
                    self.same(words_to_come(own, seen, 0), words_to_come(question, stretches, 0))
                    self.same(safe(own, seen, None, 2), safe(question, stretches, None, 2))


class Fogged(Case):
    def test_fogged(self):
        for question, fog, want in (
            (EITHER, (1, 2, 2), SOME), (EITHER, (1, 1, 2), (((1, 2), (1, 2), (2, 2)), (0, 2, 1))), (MIXED, (1, 1), (((1,), (1,)), (0, 2))),
            (ONE, (1,), ONE), (ONE_WIDE, (1, 1, 1), (((0,),), (0,))), (SOME, (2, 1), (((1, 0), (1, 1)), (0, 1))), (SOME, (1, 2), SOME),
            # The blind answer is one more than that of a STATE that is never come to.
            ((((0, 1), (1, 1), (2, 2)), (0, 1, 8)), (1, 1), (((1,), (1,)), (0, 9))),
            # As () is answered, so it is.
            ((((1, 2), (1, 2), (2, 2)), (5, 0, 1)), (1, 1), (((1,), (1,)), (5, 6))),
            (MADE[1], (1, 1), (((1,), (1,)), (0, 2))), ((((1, 1), (1, 1)), (4, 7)), (1, 1), (((1,), (1,)), (4, 7))),
            (RANKS, (1, 2, 2), (((0, 1), (1, 1)), (0, 3))), (BOTH, (1, 2, 2), (((0, 1), (1, 1)), (0, 2))),
        ):
            self.gives(want, fogged, question, fog)

    def test_as_rings_tell(self):
        for question in QUESTIONS:
            for fog in FOGS[width(question)]:
                own = fogged(question, fog)
                self.assertTrue(is_question(own) and is_open(own))
                self.same(own, least_question(own))
                self.same(own[1][0], question[1][0])
                self.same(width(own), max(fog))
                for word in words_to(max(fog), 4 if max(fog) < 3 else 3, 1):
                    answers = answers_of_look(question, fog, word)
                    self.same(oracle.answer(own, word), min(answers) if len(answers) == 1 else max(question[1]) + 1)

    def test_as_rings_one_by_one_tell(self):
        for question in (EITHER, MIXED, SIDE, RANKS, MADE[9]):
            for fog in FOGS[width(question)]:
                own = fogged(question, fog)
                for word in words_to(max(fog), 2, 1):
                    some = {oracle.answer(question, ring) for many in (1, 2, 3) for ring in words_that_look(fog, word * many)}
                    blind = max(question[1]) + 1
                    self.assertIn(oracle.answer(own, word), {min(some), blind} if len(some) == 1 else {blind})

    def test_too_many_sets(self):
        self.same([many_sets(MOST_SETS, (1, 2, 1)), many_sets(TOO_MANY_SETS, (1, 2, 2))], [200, 201])
        self.gives(True, lambda question, fog: is_question(fogged(question, fog)), MOST_SETS, (1, 2, 1))
        self.refuses(TooMuch(), fogged, TOO_MANY_SETS, (1, 2, 2))
        self.refuses(TooMuch(), fogged, LARGE, (1, 2, 1))
        # As many sets as DOINGS.
        self.same(len(fogged(LARGE, (1, 2, 3))[0]), 201)
        # No other function minds.
        self.same(is_borne(TOO_MANY_SETS, (1, 2, 2)), False)
        self.same(is_hidden(LARGE, (1, 2, 1), hidden(LARGE, (1, 2, 1))), True)
        self.same(is_veil(LARGE, (1, 2, 1), (1,), veil(LARGE, (1, 2, 1), (1,))), True)


class Veil(Case):
    def test_is_veil(self):
        for question, fog, ring, thing, so in (
            (MIXED, (1, 1), (1,), (2,), False), (MIXED, (1, 1), (1,), (1, 2), True), (MIXED, (1, 1), (1,), (2, 1, 1), True),
            (MIXED, (1, 1), (1, 1), (1, 2), True), (MIXED, (1, 1), (1, 1), (1, 2, 1), False), (MIXED, (1, 1), (1, 1), (1, 2, 1, 1), True),
            (MIXED, (1, 1), (1, 2), (1,), False), (MIXED, (1, 1), (1, 2), (2, 2), True), (MIXED, (1, 2), (1,), (1, 2), False),
            (MIXED, (1, 1), (1,), [1, 2], False), (MIXED, (1, 1), (1,), (), False), (MIXED, (1, 1), (1,), (1, 3), False),
            (MIXED, (1, 1), (1,), (True, 2), False), (MIXED, (1, 1), (1,), None, False), (MIXED, (1, 1), (1,), "12", False),
            (MIXED, (1, 1), (1,), ((1, 2),), False), (MIXED, (1, 1), (1,), 12, False), (MIXED, (1, 1), (1,), (1,) * 999 + (2,), True),
            (EITHER, (1, 1, 2), (1, 3), (2, 3), False), (EITHER, (1, 1, 2), (1, 2), (1, 1), True), (EITHER, (1, 1, 2), (1, 2), (1, 1, 1), False),
            (EITHER, (1, 1, 2), (1,), (3,), False), (EITHER, (1, 1, 2), (1,), (2,), True), (EITHER, (1, 2, 2), (1, 2), (1, 3), False),
        ):
            self.gives(so, is_veil, question, fog, ring, thing)

    def test_veil(self):
        for question in QUESTIONS:
            blind = max(question[1]) + 1
            for fog in FOGS[width(question)]:
                own = fogged(question, fog)
                for ring in RINGS[width(question)][::2]:
                    told = oracle.answer(question, ring)
                    # There is one exactly if fogged answers the look blindly.
                    self.same(oracle.answer(own, looks(fog, ring)) == blind, answers_of_look(question, fog, looks(fog, ring)) != {told})
                    if oracle.answer(own, looks(fog, ring)) != blind:
                        self.assertRaises(CanNot, veil, question, fog, ring)
                        continue
                    other = veil(question, fog, ring)
                    self.assertTrue(other and set(other) <= set(range(1, width(question) + 1)))
                    self.same(looks(fog, other), looks(fog, ring) * (len(other) // len(ring)))
                    self.assertNotEqual(oracle.answer(question, other), told)
                    self.same(is_veil(question, fog, ring, other), True)

    def test_veil_again(self):
        for question, fog, ring in ((MIXED, (1, 1), (1,)), (SIDE, (1, 1), (1, 2) * 30), (LARGE, (1, 2, 1), (1, 2, 3, 3, 3, 3)),
                                    (MADE[0], (1, 1), (2,)), (BESIDE, (1, 1), (2, 2))):
            other = veil(question, fog, ring)
            self.assertIs(other.__class__, tuple)
            self.gives(other, veil, question, fog, ring)
            self.gives(True, is_veil, question, fog, ring, other)

    def test_there_is_none(self):
        for question, fog, ring in ((EITHER, (1, 1, 2), (1, 3)), (EITHER, (1, 2, 2), (1,)), (ONE, (1,), (1, 1)), (GREATEST, (1, 1, 2), (1, 3)),
                                    (ONE_WIDE, (1, 1, 1), (1, 2, 3)), (SOME, (2, 1), (2,) * 60)):
            self.refuses(CanNot(), veil, question, fog, ring)
            for thing in ((1,), (3, 1), (2,), None):
                self.gives(False, is_veil, question, fog, ring, thing)


class Checks(Case):
    def calls(self):
        return ((is_borne, ()), (hidden, ()), (is_hidden, (((1,), (2,)),)), (is_hidden, (None,)), (fogged, ()), (veil, ((1,),)),
                (is_veil, ((1,), (2,))), (is_veil, ((1,), 7)))

    def test_errors_of_the_question_first(self):
        for question, error in ((TOO_MUCH, TooMuch()), (TOO_LARGE, TooMuch()), (ODD, Unfit()), (FIRST, Unfit()), (TWO, Unfit()),
                                (COUNTED, Unfit()), (MUCH, Unfit())):
            for function, rest in self.calls():
                for fog in ((1,), (1, 1), (1, 2, 2)):
                    self.refuses(error, function, question, fog, *rest)
            self.refuses(error, borne_fogs, question)

    def test_then_other_letters(self):
        for question, fog in ((SOME, (1,)), (SOME, (1, 1, 1)), (EITHER, (1, 2)), (ONE, (1, 1)), (LARGE, (1, 2))):
            for function, rest in self.calls():
                self.refuses(Unfit(), function, question, fog, *rest)


if __name__ == "__main__":
    unittest.main()
