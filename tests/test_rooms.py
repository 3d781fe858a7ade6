"""Point 17: few rooms."""

import itertools
import unittest

from roundtold.errors import CanNot, TooMuch, Unfit
from roundtold.rooms import answers_within, is_last_pair, last_pair, rings_within, sure_within
from roundtold.still import answers_left
from tests import oracle
from tests.helper import Case, words_to
from tests.samples import (
    BESIDE, BOTH, COUNTED, EITHER, FIRST, GREATEST, LARGE, MADE, MIXED, MUCH, ODD, ONE, ONE_WIDE, OPEN, RANKS, SIDE, SOME,
    TOO_LARGE, TOO_MUCH, TWO,
)

QUESTIONS = OPEN + MADE


def width(question):
    return len(question[0][0])


def begins(ring, word):
    return all(ring[at % len(ring)] == letter for at, letter in enumerate(word))


def rings_to(wide, word, many):
    return [ring for ring in words_to(wide, many, 1) if begins(ring, word)]


def apart(one, other):
    """The first number of a letter at which they are unlike, read from room 0."""
    return next(at for at in range(99) if one[at % len(one)] != other[at % len(other)])


def unlike_pairs(question, many):
    rings = words_to(width(question), many, 1)
    told = [oracle.answer(question, ring) for ring in rings]
    return [(rings[one], rings[other]) for one in range(len(rings)) for other in range(one) if told[one] != told[other]]


def steps_of(question, many):
    """So many letters as the pair that is longest alike asks for."""
    return max([apart(one, other) + 1 for one, other in unlike_pairs(question, many)], default=0)


class RingsWithin(Case):
    def test_rings_within(self):
        for wide, word, many, want in (
            (2, (1, 2, 1), 3, [(1, 2), (1, 2, 1)]), (3, (1,), 2, [(1,), (1, 1), (1, 2), (1, 3)]), (2, (), 1, [(1,), (2,)]), (2, (1, 2, 2, 1), 2, []),
            (1, (), 3, [(1,), (1, 1), (1, 1, 1)]), (1, (1,) * 60, 1, [(1,)]), (3, (3, 2), 2, [(3, 2)]), (2, (1, 1), 2, [(1,), (1, 1)]),
            (2, (1, 2) * 30, 4, [(1, 2), (1, 2, 1, 2)]), (2, (1, 2) * 29 + (1, 1), 6, []), (3, (2, 2, 1), 3, [(2, 2, 1)]),
            (3, (2, 1, 2), 3, [(2, 1), (2, 1, 2)]), (2, (2, 2), 3, [(2,), (2, 2), (2, 2, 1), (2, 2, 2)]),
        ):
            self.gives(want, rings_within, wide, word, many)

    def test_as_all_rings_tell(self):
        for wide in (1, 2, 3):
            for word in words_to(wide, 5 if wide < 3 else 4):
                for many in range(1, 7 if wide < 3 else 4):
                    self.same(rings_within(wide, word, many), rings_to(wide, word, many))
        self.same(rings_within(3, (), 6), words_to(3, 6, 1))
        self.same(len(rings_within(3, (1, 2), 6)), 1 + 3 + 9 + 27 + 81)


class AnswersWithin(Case):
    def test_answers_within(self):
        for question, word, many, want in (
            (BESIDE, (1, 2), 3, (0, 1)), (BESIDE, (1, 2, 1, 2), 3, (0,)), (BESIDE, (1, 2, 2, 1), 2, ()), (BESIDE, (), 1, (0, 1)),
            (SOME, (1, 1), 2, (0,)), (SOME, (1, 1), 3, (0, 1)), (ONE, (1,), 6, (7,)), (RANKS, (), 1, (0, 1, 2)), (RANKS, (3,), 2, (1, 2)),
            (RANKS, (3, 1), 2, (2,)), (GREATEST, (1,) * 60, 6, (0,)), (LARGE, (2,), 4, (0, 2)), (LARGE, (2,), 6, (0, 2, 3)),
        ):
            self.gives(want, answers_within, question, word, many)

    def test_as_rings_tell(self):
        for question in QUESTIONS:
            for word in words_to(width(question), 3)[::2]:
                for many in (1, 2, 4):
                    want = {oracle.answer(question, ring) for ring in rings_to(width(question), word, many)}
                    self.same(answers_within(question, word, many), tuple(sorted(want)))
                    self.assertLessEqual(want, set(answers_left(question, (word,))))


class SureWithin(Case):
    def test_sure_within(self):
        for question, many, want in (
            (BESIDE, 1, 1), (BESIDE, 2, 2), (BESIDE, 3, 4), (BESIDE, 4, 5), (SOME, 1, 1), (SOME, 2, 2), (SOME, 5, 5), (SOME, 6, 6), (ONE, 6, 0),
            ((((0, 0),), (7,)), 6, 0), (ONE_WIDE, 6, 0), (GREATEST, 6, 6), (RANKS, 3, 3), (MIXED, 1, 0), (MIXED, 2, 2), (SIDE, 1, 1),
        ):
            self.gives(want, sure_within, question, many)

    def test_as_pairs_tell(self):
        for question in QUESTIONS:
            steps = [steps_of(question, many) for many in range(1, 5 if width(question) < 3 else 4)]
            for many, want in enumerate(steps, 1):
                self.same(sure_within(question, many), want)
                self.assertLessEqual(want, max(many, 2 * many - 2))
            self.same(steps, sorted(steps))


class LastPair(Case):
    def test_is_last_pair(self):
        for question, many, thing, so in (
            (BESIDE, 3, ((1, 2), (1, 2, 1)), True), (BESIDE, 3, ((1, 2, 1), (1, 2)), True), (BESIDE, 3, ((1, 2), (1, 2, 2)), False),
            (BESIDE, 3, ((1, 2),), False), (BESIDE, 3, ((1, 2), [1, 2, 1]), False), (BESIDE, 3, [(1, 2), (1, 2, 1)], False),
            (BESIDE, 3, ((1,), (2,)), False), (BESIDE, 3, ((1, 2), (1, 2, 1), (1, 2)), False), (BESIDE, 3, None, False), (BESIDE, 3, (), False),
            (BESIDE, 3, (1, 2), False), (BESIDE, 3, "12", False), (BESIDE, 3, ((1, 2), (1, 2, True)), False), (BESIDE, 3, ((1, 2), ()), False),
            (BESIDE, 3, ((1, 2), (1, 2, 3)), False), (BESIDE, 3, ((1, 2), None), False), (BESIDE, 3, True, False),
            # Read for longer they are alike, but there are more rooms than three.
            (BESIDE, 3, ((1, 2), (1, 2, 1, 2, 1)), False), (BESIDE, 3, ((1, 2) * 99, (1, 2) * 99 + (1,)), False),
            (SOME, 2, ((1, 2), (1, 1)), True), (SOME, 2, ((1, 2), (1,)), True), (SOME, 2, ((2,), (1,)), False), (SOME, 1, ((2,), (1,)), True),
            (ONE, 6, ((1,), (1,)), False), (ONE, 6, None, False), (MIXED, 1, ((1,), (2,)), False),
        ):
            self.gives(so, is_last_pair, question, many, thing)

    def test_nested_deep(self):
        thing = ()
        for _ in range(98):
            thing = (thing,)
        for own in (thing, (thing, thing)):
            self.gives(False, is_last_pair, SOME, 2, own)

    def test_last_pair(self):
        for question in QUESTIONS:
            for many in range(1, 5 if width(question) < 3 else 4):
                if steps_of(question, many) == 0:
                    self.assertRaises(CanNot, last_pair, question, many)
                    continue
                one, other = last_pair(question, many)
                self.assertTrue(1 <= len(one) <= many and 1 <= len(other) <= many)
                self.assertNotEqual(oracle.answer(question, one), oracle.answer(question, other))
                self.same(apart(one, other), steps_of(question, many) - 1)
                self.same(is_last_pair(question, many, (one, other)), True)

    def test_as_it_is_said(self):
        for question, many in ((BESIDE, 3), (SOME, 3), (RANKS, 2), (MADE[1], 4), (EITHER, 2)):
            steps = steps_of(question, many)
            for one, other in itertools.product(words_to(width(question), many + 1, 1), repeat=2):
                so = (max(len(one), len(other)) <= many and oracle.answer(question, one) != oracle.answer(question, other)
                      and apart(one, other) >= steps - 1)
                self.same(is_last_pair(question, many, (one, other)), so)

    def test_last_pair_again(self):
        for question, many in ((BESIDE, 3), (SOME, 6), (LARGE, 6), (BOTH, 2)):
            pair = last_pair(question, many)
            self.assertTrue(isinstance(pair, tuple) and all(isinstance(own, tuple) for own in pair))
            self.gives(pair, last_pair, question, many)
            self.gives(True, is_last_pair, question, many, pair)

    def test_there_is_none(self):
        for question, many in ((ONE, 6), (ONE_WIDE, 1), ((((0, 0),), (7,)), 6), (MIXED, 1)):
            self.refuses(CanNot(), last_pair, question, many)


class Checks(Case):
    def test_errors_of_the_question_first(self):
        for question, error in ((TOO_MUCH, TooMuch()), (TOO_LARGE, TooMuch()), (ODD, Unfit()), (FIRST, Unfit()), (TWO, Unfit()),
                                (COUNTED, Unfit()), (MUCH, Unfit())):
            for function, rest in ((answers_within, ((1,), 2)), (sure_within, (2,)), (last_pair, (1,)), (is_last_pair, (2, ((1,), (2,)))),
                                   (is_last_pair, (2, None))):
                self.refuses(error, function, question, *rest)


if __name__ == "__main__":
    unittest.main()
