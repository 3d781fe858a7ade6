"""Point 12: what is sure."""

import itertools
import unittest

from roundtold.errors import CanNot, NoPlace, TooMuch, Unfit
from roundtold.grades import ring_grade
from roundtold.rings import read, turned
from roundtold.sure import is_sure_ring, latest_sure, least_sure, sure_behind, sure_of, surest
from tests import oracle
from tests.helper import Case, words_to
from tests.samples import (
    BESIDE, BOTH, COUNTED, FIRST, GREATEST, LARGE, MADE, MIXED, MUCH, ODD, ONE, OPEN, RANKS, SIDE, SOME, TOO_LARGE,
    TOO_MUCH, TWO,
)

HAS_TWO, RISING = MADE[1], MADE[-1]
RINGS = {1: words_to(1, 5, 1), 2: words_to(2, 6, 1), 3: words_to(3, 4, 1)}


def one_answer(question, stretches):
    """The answer of all LOTS left; None if they have several."""
    answers = {oracle.answer_of_lot(question, lot) for lot in oracle.lots_left(question, stretches)}
    return answers.pop() if len(answers) == 1 else None


def first_sure(question, ring, room):
    """The least number of letters that are sure, None if there is none to 16."""
    return next((steps for steps in range(17) if one_answer(question, (read(ring, room, steps),)) is not None), None)


class Sure(Case):
    def test_sure_of(self):
        for question, stretches, want in (
            (SOME, ((1, 1),), None), (SOME, ((1, 1), (1, 2)), 1), (GREATEST, ((2, 3, 1),), 0), (GREATEST, ((2,),), None),
            (SIDE, ((1, 2), (2, 1)), None), (SIDE, ((1, 2, 2),), 1), (ONE, ((),), 7), (ONE, ((1,), ()), 7), (SOME, ((),), None),
            (GREATEST, ((), (1,), (3,)), 0), (BOTH, ((2,), (3,)), 1), (BOTH, ((2,),), None), (RANKS, ((1, 3),), None),
            (RANKS, ((1, 3, 2),), 1), (HAS_TWO, ((1, 1),), None), (HAS_TWO, ((1, 1), (2,)), 1), (SOME, ((1,) * 60,) * 4, None),
            (SOME, ((1,) * 59 + (2,),), 1),
        ):
            self.gives(want, sure_of, question, stretches)

    def test_as_lots_tell(self):
        for question in OPEN + MADE:
            words = words_to(len(question[0][0]), 3)
            for stretches in [(word,) for word in words] + list(itertools.product(words[:7], repeat=2)):
                self.same(sure_of(question, stretches), one_answer(question, stretches))

    def test_of_all_rings_that_still_may_be(self):
        for question in OPEN + MADE:
            for word in words_to(len(question[0][0]), 4):
                told = sure_of(question, (word,))
                if told is not None:
                    for ring in RINGS[len(question[0][0])]:
                        if oracle.may_be((word,), ring):
                            self.same(oracle.answer(question, ring), told)

    def test_sure_stays_sure(self):
        for question in OPEN + MADE:
            for word in words_to(len(question[0][0]), 3):
                told = sure_of(question, (word,))
                if told is not None:
                    for letter in range(1, len(question[0][0]) + 1):
                        self.same([sure_of(question, (word + (letter,),)), sure_of(question, ((letter,), word))], [told] * 2)


class SureRings(Case):
    def test_is_sure_ring(self):
        for question, ring, so in (
            (GREATEST, (1,), False), (GREATEST, (2, 1), False), (GREATEST, (1, 3, 2), True), (SIDE, (2,), True), (SIDE, (1, 2), False),
            (ONE, (1,), True), (RANKS, (3,), False), (RANKS, (2,), True), (BOTH, (2, 3), True), (BOTH, (3,), False),
            (SOME, (1,) * 60, False), (SOME, (1,) * 59 + (2,), True), (HAS_TWO, (1, 1, 2), True), (HAS_TWO, (1,), False),
        ):
            self.gives(so, is_sure_ring, question, ring)

    def test_sure_behind(self):
        for question, ring, room, want in (
            (SIDE, (1, 2, 2), 0, 3), (SIDE, (1, 2, 2), 1, 2), (SIDE, (1, 2, 2), 2, 4), (SIDE, (2,), 0, 2), (ONE, (1, 1), 1, 0),
            (SOME, (1, 1, 2), 0, 3), (SOME, (1, 1, 2), 2, 1), (GREATEST, (3,), 0, 1), (GREATEST, (2, 1, 3), 1, 2), (BOTH, (2, 3), 1, 2),
            (SOME, (1,) * 59 + (2,), 0, 60), (SOME, (1,) * 59 + (2,), 59, 1), (SIDE, (2,) + (1,) * 58 + (2,), 0, 61),
        ):
            self.gives(want, sure_behind, question, ring, room)

    def test_latest_sure(self):
        for question, ring, want in (
            (SIDE, (1, 2, 2), (4, 2)), (SIDE, (1, 2, 1, 1, 2, 2), (7, 5)), (SOME, (1, 1, 2), (3, 0)), (SIDE, (2,), (2, 0)),
            (ONE, (1, 1, 1), (0, 0)), (GREATEST, (3, 3), (1, 0)), (BOTH, (2, 3, 2, 3), (2, 0)), (BOTH, (3, 2, 2), (3, 1)),
            (SOME, (2, 1, 1, 2, 1, 1), (3, 1)),
        ):
            self.gives(want, latest_sure, question, ring)

    def test_never_sure(self):
        for question, ring in ((SOME, (1, 1)), (SIDE, (1, 2)), (GREATEST, (2, 1)), (BOTH, (1, 2)), (RANKS, (3,)), (SOME, (1,) * 60),
                               (HAS_TWO, (1,)), (RISING, (2,)), (RISING, (1, 2))):
            self.gives(False, is_sure_ring, question, ring)
            for room in range(len(ring)):
                self.refuses(CanNot(), sure_behind, question, ring, room)
            self.refuses(CanNot(), latest_sure, question, ring)

    def test_as_readings_tell(self):
        for question in OPEN + MADE:
            for ring in RINGS[len(question[0][0])][::3]:
                behind = [first_sure(question, ring, room) for room in range(len(ring))]
                self.same(is_sure_ring(question, ring), None not in behind)
                self.same(is_sure_ring(question, ring), ring_grade(question, ring) == 1)
                if None in behind:
                    self.same(set(behind), {None})
                    self.assertRaises(CanNot, latest_sure, question, ring)
                    for room in range(len(ring)):
                        self.assertRaises(CanNot, sure_behind, question, ring, room)
                    continue
                self.same([sure_behind(question, ring, room) for room in range(len(ring))], behind)
                self.same(latest_sure(question, ring), (max(behind), behind.index(max(behind))))
                self.same([latest_sure(question, turned(ring, 1))[0], latest_sure(question, ring * 2)[0]], [max(behind)] * 2)

    def test_surest(self):
        for question, want in ((SOME, (1,)), (GREATEST, (0,)), (SIDE, (1,)), (ONE, (7,)), (BOTH, (1,)), (RANKS, (1,)),
                               (MIXED, (1,)), (MADE[4], (3,)), (LARGE, (3,)), (BESIDE, (1,))):
            self.gives(want, surest, question)

    def test_surest_as_rings_tell(self):
        for question in OPEN + MADE:
            sure = {oracle.answer(question, ring) for ring in RINGS[len(question[0][0])] if is_sure_ring(question, ring)}
            self.assertLess(0, len(sure))
            self.same(surest(question), tuple(sorted(sure)))

    def test_least_sure(self):
        for question, answer, want in ((SIDE, 1, (2, 2)), (GREATEST, 0, (3,)), ((((0,),), (4,)), 4, ()), (SOME, 1, (2,)),
                                       (BOTH, 1, (2, 3)), (RANKS, 1, (2,)), (ONE, 7, ()), (MIXED, 1, (1, 2)), (HAS_TWO, 1, (1, 1, 2)),
                                       (BESIDE, 1, (1, 1)), (LARGE, 3, (3, 3, 3, 3))):
            self.gives(want, least_sure, question, answer)

    def test_least_sure_as_all_words_tell(self):
        for question in OPEN + MADE[:6]:
            least = {}
            for word in words_to(len(question[0][0]), 4):
                least.setdefault(one_answer(question, (word,)), word)
            for answer in surest(question):
                self.same(least_sure(question, answer), least[answer])

    def test_no_word_is_sure(self):
        for question, answer in ((GREATEST, 1), (SOME, 0), (SOME, 2), (ONE, 0), (RANKS, 0), (RANKS, 2), (SOME, -1), (BOTH, 0),
                                 (ONE, 10 ** 30), (ONE, -7), (LARGE, 2)):
            self.refuses(CanNot(), least_sure, question, answer)


class Checks(Case):
    def calls(self):
        """Each function, and what else it takes, also a room that there is not."""
        return ((sure_of, (((1,),),)), (is_sure_ring, ((1,),)), (sure_behind, ((1,), 0)), (sure_behind, ((1,), 1)),
                (sure_behind, ((1,), -1)), (latest_sure, ((1,),)), (surest, ()), (least_sure, (0,)), (least_sure, (10 ** 30,)))

    def test_too_many_doings_first(self):
        for question in (TOO_MUCH, TOO_LARGE):
            for function, rest in self.calls():
                self.refuses(TooMuch(), function, question, *rest)

    def test_then_not_open(self):
        for question in (ODD, FIRST, TWO, COUNTED, MUCH):
            for function, rest in self.calls():
                self.refuses(Unfit(), function, question, *rest)

    def test_then_no_such_room(self):
        # Also of a RING that is never sure.
        for ring, room in (((1, 2), 2), ((1, 2), -1), ((1, 2), -2), ((1,), 1), ((1, 1), 10 ** 30), ((2,) * 60, 60)):
            self.refuses(NoPlace(room), sure_behind, SOME, ring, room)


if __name__ == "__main__":
    unittest.main()
