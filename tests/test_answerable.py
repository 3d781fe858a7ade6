"""Point 7: open to walkers."""

import functools
import itertools
import unittest

from roundtold.answerable import (
    flaw, is_flaw, is_of_rings, is_open, lot_answers, needs_mark, opened, ring_answer,
)
from roundtold.errors import CanNot, TooMuch, Unfit
from roundtold.questions import answer, joined, least_question, renamed, turned_about
from tests import oracle
from tests.helper import Case, words_to
from tests.samples import (
    BESIDE, BOTH, COUNTED, FIRST, GREATEST, LARGE, LATE, LOST, MADE, MIDDLE, MUCH, ODD, ONE, ONE_WIDE, OPEN, RANKS,
        ROUND,
    SECOND, SIDE, SMALL, SOME, TOO_LARGE, TOO_MUCH, TWO,
)

MANY = SMALL + MIDDLE + OPEN + MADE + [COUNTED, FIRST, LATE, LOST, ODD, ROUND, SECOND, TWO]
# The answer of () alone is unlike.
AHEAD = (((1,), (1,)), (3, 0))
# Evenly many 2s, not counting the first letter: not of rings; the number of letters, round three.
THREES = (((1, 1), (2, 2), (0, 0)), (0, 1, 1))


def answer_of(question, doing):
    return least_question(question)[1][doing[0]]


@functools.lru_cache(maxsize=None)
def of_rings(question):
    every = oracle.all_doings(question)
    return all(answer_of(question, oracle.composed(one, other)) == answer_of(question, oracle.composed(other, one))
               for one in every for other in every)


def power_of(doing, many):
    return functools.reduce(oracle.composed, [doing] * many)


@functools.lru_cache(maxsize=None)
def free(question):
    """Whether it is open to walkers, by what sections 3 and 6 say of all WORDS: by their DOINGS."""
    every = oracle.all_doings(question)
    return of_rings(question) and all(answer_of(question, power_of(doing, many)) == answer_of(question, doing)
                                      for doing in every for many in range(2, 2 * len(every) + 2))


class Open(Case):
    def test_open(self):
        for question in (SOME, GREATEST, SIDE, BESIDE, RANKS, BOTH, ONE, ONE_WIDE, AHEAD, LARGE):
            self.gives(True, is_of_rings, question)
            self.gives(True, is_open, question)
            self.gives(False, needs_mark, question)

    def test_of_rings_alone(self):
        for question in (ODD, TWO, ROUND, COUNTED, THREES):
            self.gives(True, is_of_rings, question)
            self.gives(False, is_open, question)
            self.gives(True, needs_mark, question)

    def test_not_of_rings(self):
        for question in (FIRST, SECOND, MUCH):
            self.gives(False, is_of_rings, question)
            self.gives(False, is_open, question)
            self.gives(False, needs_mark, question)

    def test_as_all_doings_tell(self):
        for question in MANY:
            self.same(is_of_rings(question), of_rings(question))
            self.same(is_open(question), free(question))
            self.same(needs_mark(question), of_rings(question) and not free(question))

    def test_late_powers(self):
        # Unlike only from the fifth power on: 1 1 1 1 1 is the first WORD of unlike answer.
        question = (((1,), (2,), (3,), (4,), (5,), (5,)), (0, 0, 0, 0, 0, 1))
        self.gives(False, is_open, question)
        self.gives(True, is_flaw, question, ("power", (1,), 5))
        self.gives(False, is_flaw, question, ("power", (1,), 4))
        # x has the answer of all great powers, but not of x x.
        between = (((1,), (2,), (3,), (3,)), (0, 0, 1, 0))
        self.gives(True, is_of_rings, between)
        self.gives(False, is_open, between)
        self.gives(True, is_flaw, between, ("power", (1,), 2))
        self.gives(False, is_flaw, between, ("power", (1,), 3))
        self.gives(("power", (1,), 2), flaw, between)

    def test_what_open_ones_make_is_open(self):
        for question in OPEN + MADE:
            self.assertTrue(is_open(turned_about(question)))
            self.assertTrue(is_open(renamed(question, (4, 0, 2, 2, 1, 7, 5, 3, 8, 9, 6, 6))))
        for one, other in itertools.combinations(OPEN + MADE[:6], 2):
            if len(one[0][0]) == len(other[0][0]):
                self.assertTrue(is_open(joined(one, other)))


class Flaws(Case):
    def test_flaw_is_one(self):
        for question in MANY + [MUCH]:
            if is_open(question):
                self.refuses(CanNot(), flaw, question)
            else:
                found = flaw(question)
                self.gives(True, is_flaw, question, found)
                self.gives(found, flaw, question)
                self.assertIs(found.__class__, tuple)
                if found[0] == "turn":
                    self.assertFalse(is_of_rings(question))

    def test_flaws_of_few_letters(self):
        for question in SMALL + [FIRST, LOST, LATE, SECOND, SIDE, TWO, ROUND]:
            words = words_to(len(question[0][0]), 3, 1)
            for one, other in itertools.product(words, repeat=2):
                so = oracle.answer(question, one + other) != oracle.answer(question, other + one)
                self.same(is_flaw(question, ("turn", one, other)), so)
            for word in words:
                for many in range(2, 14):
                    so = oracle.answer(question, word) != oracle.answer(question, word * many)
                    self.same(is_flaw(question, ("power", word, many)), so)

    def test_great_powers(self):
        for many, so in ((10 ** 30, True), (10 ** 30 + 1, False), (10 ** 1000, True), (10 ** 1000 - 1, False)):
            self.gives(so, is_flaw, ODD, ("power", (2,), many))
        # Round six: with a number of letters that six divides the answer is that of ().
        for many, so in ((6 * 10 ** 30 + 5, True), (6 * 10 ** 30, False), (6 * 10 ** 30 + 4, False)):
            self.gives(so, is_flaw, ROUND, ("power", (1,), many))
        self.gives(False, is_flaw, COUNTED, ("power", (1,) * 5, 10 ** 30))
        self.gives(True, is_flaw, COUNTED, ("power", (1,) * 4, 10 ** 30))

    def test_no_flaws(self):
        for thing in (
            None, True, False, 0, 7, "", "turn", "power", (), [], ("turn",), ("power",), ("turn", (1,)),
            ("power", (2,)),
            ["power", (2,), 2], ("power", [2], 2), ["power", [2], 2], ("turn", [1], (2,)), ("turn", (1,), [2]),
            ("power", (2,), 2, 2), ("power", (2,), 2, ()), (("power", (2,), 2),), ("power", (2,), 1),
            ("power", (2,), 0),
            ("power", (2,), -2), ("power", (2,), True), ("power", (2,), None), ("power", (2,), "2"),
            ("power", (2,), (2,)),
            ("power", (), 2), ("power", (3,), 2), ("power", (0,), 2), ("power", (2, 4), 2), ("power", (True, 2), 2),
            ("power", 2, 2), ("power", "2", 2), ("power", None, 2), ("Power", (2,), 2), ("powers", (2,), 2),
            (("power",), (2,), 2), (0, (2,), 2), (None, (2,), 2), ("", (2,), 2), ("turn", (2,), 2),
            ("power", (2,), (1,)),
            ((2,), 2, "power"), ("flaw", (1,), (2,)), (["power"], (2,), 2),
        ):
            self.gives(False, is_flaw, ODD, thing)
        for thing in (
            ("turn", (), (1, 2)), ("turn", (1, 2), ()), ("turn", (), ()), ("turn", (1,), (3,)), ("turn", (3,), (1,)),
            ("turn", (1,), 2), ("turn", 1, (2,)), ("turn", (1,), (True, 2)), ("turn", (1,), None),
            ("power", (1,), (2,)),
            ("turn", (1,), (2,), (2,)), ("turn", (1,), (1, 2)), ("turn", (1,), "2"), (True, (1,), (2,)),
        ):
            self.gives(False, is_flaw, FIRST, thing)
        self.gives(True, is_flaw, FIRST, ("turn", (1,), (2,)))
        self.gives(True, is_flaw, FIRST, ("turn", (2, 2), (1, 1, 1)))

    def test_of_any_size(self):
        self.gives(True, is_flaw, ODD, ("power", (1,) * 5000 + (2,), 2))
        self.gives(False, is_flaw, ODD, ("power", (1,) * 5000 + (3,), 2))
        self.gives(True, is_flaw, FIRST, ("turn", (1,) * 5000, (2,) * 5000))
        deep = ()
        for _ in range(97):
            deep = (deep,)
        for thing in (deep, ("turn", deep, (2,)), ("turn", (1,), deep), ("power", (2,), deep), (deep, (1,), (2,))):
            self.gives(False, is_flaw, FIRST, thing)
            self.gives(False, is_flaw, ODD, thing)

    def test_whatever_many_doings(self):
        # is_flaw alone does not count them.
        for question in (TOO_MUCH, TOO_LARGE):
            self.gives(False, is_flaw, question, ())
            self.gives(False, is_flaw, question, ("turn", (1,), (1, 1)))
        self.gives(oracle.answer(TOO_MUCH, (1,)) != oracle.answer(TOO_MUCH, (1, 1)), is_flaw, TOO_MUCH, ("power", (1,), 2))
        self.gives(True, is_flaw, TOO_MUCH, ("turn", (1,), (2,)))


class Answers(Case):
    def test_lot_answers(self):
        for question, want in ((SOME, (0, 1)), (GREATEST, (0, 1, 0)), (SIDE, (0, 1)), (RANKS, (0, 1, 2)), (ONE, (7,)),
                               (AHEAD, (0,)), (MADE[1], (None, 0, 0, 1))):
            self.gives(want, lot_answers, question)

    def test_ring_answer(self):
        for question, ring, want in ((GREATEST, (1, 2, 1), 1), (GREATEST, (3, 2), 0), (SIDE, (2,), 1), (SIDE, (2, 1), 0),
                                     (SIDE, (2, 1, 1, 2), 1), (ONE, (1,), 7), (AHEAD, (1,), 0),
                                     (RANKS, (3, 1) * 30, 2)):
            self.gives(want, ring_answer, question, ring)

    def test_one_answer_of_all_rings_of_a_lot(self):
        for question in OPEN + MADE + [own for own in SMALL if free(own)]:
            told = lot_answers(question)
            self.same([lot for lot, own in enumerate(told) if own is not None], oracle.firm(question))
            for ring in words_to(len(question[0][0]), 5, 1):
                self.same(ring_answer(question, ring), oracle.answer(question, ring))
                self.same(told[oracle.lot_of_ring(question, ring)], oracle.answer(question, ring))

    def test_not_open(self):
        for question in (ODD, FIRST, TWO, ROUND, SECOND, COUNTED, MUCH):
            self.refuses(Unfit(), lot_answers, question)
            self.refuses(Unfit(), ring_answer, question, (1,))


class Opened(Case):
    def test_opened(self):
        for question, want in ((ODD, (((0, 0),), (0,))), (TWO, (((1,), (1,)), (0, 1))),
                               (COUNTED, (((1,), (1,)), (0, 9))), (ROUND, (((0,),), (0,))), (AHEAD, AHEAD),
                               (THREES, (((0, 0),), (0,))), (ONE, ONE), (RANKS, RANKS)):
            self.gives(want, opened, question)

    def test_not_of_rings(self):
        for question in (FIRST, SECOND, MUCH):
            self.refuses(Unfit(), opened, question)

    def test_as_powers_tell(self):
        for question in MANY:
            if not of_rings(question):
                self.assertRaises(Unfit, opened, question)
                continue
            found = opened(question)
            self.same(least_question(found), found)
            self.assertTrue(is_open(found))
            self.same(found[1][0], question[1][0])
            for word in words_to(len(question[0][0]), 5, 1):
                # 720 is a multiple of all that may be needed here.
                self.same(answer(found, word), oracle.answer(question, word * 720))
            if free(question):
                self.same(found, least_question(question))


class TooManyDoings(Case):
    def test_first_of_all(self):
        for question in (TOO_MUCH, TOO_LARGE):
            for function in (is_of_rings, is_open, needs_mark, flaw, lot_answers, opened):
                self.refuses(TooMuch(), function, question)
            self.refuses(TooMuch(), ring_answer, question, (1, 2))

    def test_up_to_there_they_answer(self):
        self.gives(True, is_open, LARGE)
        self.assertEqual(set(lot_answers(LARGE)), {None, 0, 1, 2, 3})
        self.gives(least_question(LARGE), opened, LARGE)
        self.gives(1, ring_answer, LARGE, (1,) * 13 + (2,))
        self.gives(0, ring_answer, LARGE, (1,) * 12 + (2,))
        self.gives(2, ring_answer, LARGE, (3, 3, 3, 1))
        self.gives(3, ring_answer, LARGE, (3, 3, 1, 3, 3))


if __name__ == "__main__":
    unittest.main()
