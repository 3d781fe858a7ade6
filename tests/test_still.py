"""Point 9: what still may be."""

import itertools
import unittest

from roundtold.errors import CanNot, NoPlace, TooMuch, Unfit
from roundtold.still import answers_left, is_ring_left, lots_left, may_be, ring_left
from tests import oracle
from tests.helper import Case, words_to
from tests.samples import (
    BESIDE, BOTH, COUNTED, FIRST, GREATEST, LARGE, MADE, MUCH, ODD, ONE, OPEN, RANKS, SIDE, SOME, TOO_LARGE, TOO_MUCH, TWO,
)

HAS_ONES, HAS_TWO = MADE[0], MADE[1]
# Rooms enough for all LOTS that two or three short STRETCHES leave.
RINGS = {1: words_to(1, 6, 1), 2: words_to(2, 7, 1), 3: words_to(3, 4, 1)}


def stretches_of(question):
    """Some STRETCHES, short ones."""
    wide = len(question[0][0])
    some = words_to(wide, 3)
    several = list(itertools.product(words_to(wide, 2), repeat=2)) + list(itertools.product(words_to(wide, 1), repeat=4))
    return [(word,) for word in some] + several[::5] + [((), (1,), (wide, wide), (1,))]


def lots_by_rings(question, stretches):
    """The LOTS of all RINGS with few rooms that still may be."""
    return {oracle.lot_of_ring(question, ring) for ring in RINGS[len(question[0][0])] if oracle.may_be(stretches, ring)}


class Left(Case):
    def test_lots_left(self):
        for question, stretches, want in (
            (SOME, ((1, 1),), (0, 1)), (SOME, ((1,), (1, 2)), (1,)), (GREATEST, ((),), (0, 1, 2)), (GREATEST, ((2, 1),), (1, 2)),
            (GREATEST, ((2,), (), (1, 1, 3), (1,)), (2,)), (SIDE, ((2,),), (0, 1)), (SIDE, ((2, 1), (2, 2)), (1,)),
            (SIDE, ((1,) * 60,) * 4, (0, 1)), (SIDE, ((1,) * 58 + (2, 2),), (1,)), (ONE, ((), ()), (0,)),
            (HAS_TWO, ((),), (1, 2, 3)), (HAS_TWO, ((1,),), (1, 2, 3)), (HAS_TWO, ((1, 1), (2,)), (3,)),
            (BOTH, ((2,), (3,)), (3,)), (BOTH, ((2,),), (1, 3)), (RANKS, ((2,),), (1,)), (RANKS, ((3,),), (1, 2)),
        ):
            self.gives(want, lots_left, question, stretches)

    def test_answers_left(self):
        for question, stretches, want in (
            (GREATEST, ((1,), (2,)), (0, 1)), (GREATEST, ((3,),), (0,)), (SIDE, ((2, 1), (1, 1, 2)), (0, 1)), (ONE, ((1,),), (7,)),
            (SIDE, ((2, 2),), (1,)), (RANKS, ((),), (0, 1, 2)), (RANKS, ((3,),), (1, 2)), (MADE[4], ((),), (3, 9)),
            (MADE[4], ((2, 3),), (3,)),
        ):
            self.gives(want, answers_left, question, stretches)

    def test_as_rings_tell(self):
        for question in OPEN + MADE:
            for stretches in stretches_of(question):
                left = lots_left(question, stretches)
                self.same(list(left), oracle.lots_left(question, stretches))
                self.assertLessEqual(lots_by_rings(question, stretches), set(left))
                self.assertLess(0, len(left))
                answers = {oracle.answer_of_lot(question, lot) for lot in left}
                self.same(answers_left(question, stretches), tuple(sorted(answers)))

    def test_all_that_is_left_by_a_word_is_seen_in_rings(self):
        for question in OPEN:
            for stretches in [((),)] + [((letter,),) for letter in range(1, len(question[0][0]) + 1)]:
                self.same(sorted(lots_by_rings(question, stretches)), list(lots_left(question, stretches)))

    def test_what_lies_within_another_can_go(self):
        for question in OPEN + MADE:
            for word in words_to(len(question[0][0]), 3):
                self.same(lots_left(question, (word, word[1:], word[:1])), lots_left(question, (word,)))


class RingLeft(Case):
    def test_ring_left_is_one(self):
        for question in OPEN + MADE:
            for stretches in stretches_of(question):
                left = lots_left(question, stretches)
                for lot in range(len(oracle.lots(question))):
                    if lot not in left:
                        self.assertRaises(CanNot, ring_left, question, stretches, lot)
                        continue
                    ring = ring_left(question, stretches, lot)
                    self.assertTrue(set(ring) <= set(range(1, len(question[0][0]) + 1)) and ring != ())
                    self.assertTrue(oracle.may_be(stretches, ring))
                    self.same(oracle.lot_of_ring(question, ring), lot)
                    self.same(is_ring_left(question, stretches, lot, ring), True)

    def test_ring_left(self):
        for question, stretches, lot in ((SIDE, ((2,), (1,)), 1), (SIDE, ((2, 1), (1, 1, 2)), 0), (GREATEST, ((2, 1), (1,)), 2),
                                         (SOME, ((), ()), 0), (LARGE, ((1,) * 30, (1, 2) * 9, (), (2,) * 60), 16),
                                         (LARGE, ((1,) * 30, (2, 3) * 30, (), (2,) * 60), 8)):
            ring = ring_left(question, stretches, lot)
            self.assertIs(ring.__class__, tuple)
            self.gives(ring, ring_left, question, stretches, lot)
            self.gives(True, is_ring_left, question, stretches, lot, ring)
            self.gives(True, may_be, stretches, ring)

    def test_none_is_left(self):
        for question, stretches, lot in ((SOME, ((2,),), 0), (GREATEST, ((1,), (3, 1)), 1), (SIDE, ((2, 2),), 0),
                                         # Not firm, not even with nothing read.
                                         (HAS_TWO, ((),), 0), (HAS_ONES, ((),), 0), (HAS_ONES, ((1,),), 0)):
            self.refuses(CanNot(), ring_left, question, stretches, lot)
            for thing in ((1,), (2,), (1, 2), (2, 2, 1), (1, 1, 2), None, (), [1]):
                self.gives(False, is_ring_left, question, stretches, lot, thing)

    def test_is_ring_left(self):
        for thing, so in (
            ((1, 1, 2), True), ((2, 1, 1, 1), True), ((1, 2), False), ((2, 1, 2, 1, 1), True), ([1, 1, 2], False),
            ((1, 1, 2) * 40, True), ((1, 1, 2, 2), False), ((1,), False), ((), False), ((1, 1, 2, 3), False), ((1, 1, 2, 0), False),
            ((True, 1, 2), False), ((1, 1, 2, None), False), (None, False), (True, False), (112, False), ("112", False),
            ((1, 1, (2,)), False), (((1, 1, 2),), False), ([], False), ("", False), ((1, 1, "2"), False),
        ):
            self.gives(so, is_ring_left, SIDE, ((2, 1), (1, 1, 2)), 0, thing)
        self.gives(True, is_ring_left, SOME, ((1, 1),), 0, (1,))
        # A letter that the QUESTION does not read.
        self.gives(False, is_ring_left, SOME, ((1, 1),), 0, (3,))
        self.gives(False, is_ring_left, SOME, ((1, 1),), 1, (1, 2, 3))
        self.gives(False, is_ring_left, SOME, ((1, 1),), 1, (1,))
        self.gives(True, is_ring_left, SOME, ((1, 1),), 1, (1, 2, 1))

    def test_as_rings_tell(self):
        for question in OPEN + MADE[:3]:
            for stretches in stretches_of(question)[::9]:
                for lot in range(len(oracle.lots(question))):
                    for ring in RINGS[len(question[0][0])][::7]:
                        so = oracle.may_be(stretches, ring) and oracle.lot_of_ring(question, ring) == lot
                        self.same(is_ring_left(question, stretches, lot, ring), so)

    def test_nested_deep(self):
        thing = ()
        for _ in range(99):
            thing = (thing,)
        for own in (thing, (1, thing[0])):
            self.gives(False, is_ring_left, SOME, ((),), 0, own)

    def test_no_such_lot(self):
        for question, many in ((SOME, 2), (ONE, 1), (HAS_TWO, 4)):
            for lot in (many, many + 5, -1, -many, 10 ** 30):
                self.refuses(NoPlace(lot), ring_left, question, ((1,),), lot)
                for thing in ((1,), None, (7,)):
                    self.refuses(NoPlace(lot), is_ring_left, question, ((1,),), lot, thing)


class MayBe(Case):
    def test_may_be(self):
        for stretches, ring, so in (
            (((2, 1, 2, 1, 2),), (1, 2), True), (((1, 1, 2), (2, 1, 2)), (1, 1, 2), False), (((), (3, 3)), (3,), True),
            (((),), (1,), True), (((1,),), (2,), False), (((1, 2, 3),), (3, 1, 2), True), (((1, 3, 2),), (3, 1, 2), False),
            (((1,) * 60,), (1,), True), (((1,) * 60,), (1,) * 59, True), (((1,) * 59 + (2,),), (1,) * 58 + (2,), False),
            (((1,) * 59 + (2,),), (1,) * 59 + (2,), True), (((2,) + (1,) * 59,), (1,) * 59 + (2,), True),
            (((1, 2), (2, 1), (2, 2), (1, 1)), (1, 1, 2, 2), True), (((1, 2), (2, 1), (2, 2), (1, 1)), (1, 2, 2), False),
            (((2, 1), ()), (1, 1), False), (((1, 1), (3,)), (1, 1, 2), False),
        ):
            self.gives(so, may_be, stretches, ring)

    def test_as_all_readings_tell(self):
        for ring in words_to(2, 5, 1) + words_to(3, 3, 1):
            for stretches in [(word,) for word in words_to(3, 3)] + [((1,), (2, 1), ()), ((3,), (2,)), ((1, 1), (2, 2), (1, 2))]:
                self.same(may_be(stretches, ring), oracle.may_be(stretches, ring))

    def test_however_many_rounds(self):
        for ring in words_to(2, 4, 1):
            for word in words_to(2, 4):
                self.same(may_be((word,), ring * 3), may_be((word,), ring))


class Checks(Case):
    def calls(self):
        """Each function with a QUESTION, and what else it takes, also a LOT that there is not."""
        return ((lots_left, (((1,),),)), (lots_left, (((),),)), (answers_left, (((1,),),)), (ring_left, (((),), 0)),
                (ring_left, (((1,),), -1)), (ring_left, (((),), 10 ** 30)), (is_ring_left, (((1,),), 0, (1,))),
                (is_ring_left, (((1,),), 10 ** 30, None)))

    def test_too_many_doings_first(self):
        for question in (TOO_MUCH, TOO_LARGE):
            for function, rest in self.calls():
                self.refuses(TooMuch(), function, question, *rest)

    def test_then_not_open(self):
        for question in (ODD, FIRST, TWO, COUNTED, MUCH):
            for function, rest in self.calls():
                self.refuses(Unfit(), function, question, *rest)

    def test_up_to_there_they_answer(self):
        self.gives((1, 4, 8, 16), lots_left, LARGE, ((),))
        self.gives((0, 1, 2, 3), answers_left, LARGE, ((1, 2),))
        self.gives((1, 2, 3), answers_left, LARGE, ((1,) * 13,))
        self.gives((2, 3), answers_left, LARGE, ((3,),))
        self.gives((3,), answers_left, LARGE, ((1,), (3,) * 4))


if __name__ == "__main__":
    unittest.main()
