"""Point 14: promised rings."""

import itertools
import unittest

from roundtold.errors import CanNot, TooMuch, Unfit
from roundtold.grades import swing
from roundtold.promised import (
    is_promise, kept_lots, lowers, promised_grade, promised_safe, promised_sure, promised_swing,
)
from roundtold.questions import joined, renamed
from roundtold.safe import safe
from roundtold.sure import sure_of
from tests import oracle
from tests.helper import Case, words_to
from tests.samples import (
    BESIDE, BOTH, COUNTED, EITHER, FIRST, GREATEST, LARGE, MADE, MIXED, MUCH, ODD, ONE, ONE_WIDE, OPEN, RANKS, SIDE, SOME,
    TOO_LARGE, TOO_MUCH, TWO,
)

# Whether a 3 stands somewhere.
THREE = (((0, 0, 1), (1, 1, 1)), (0, 1))
NO_THREE, A_THREE, NO_RING, ANY = (THREE, (0,)), (THREE, (1,)), (THREE, (7,)), (THREE, (0, 1))
RINGS = {1: words_to(1, 5, 1), 2: words_to(2, 6, 1), 3: words_to(3, 4, 1)}
FEW_ANSWERS = [own for own in OPEN + MADE if max(own[1]) <= 9]


def width(question):
    return len(question[0][0])


def some_promises(question):
    """PROMISES for this QUESTION: of unlike QUESTIONS, of all, some and none of their answers."""
    for other in (own for own in OPEN + MADE[:1] if width(own) == width(question)):
        told = sorted({oracle.answer_of_lot(other, lot) for lot in oracle.firm(other)})
        for answers in {tuple(told), tuple(told[:1]), tuple(told[1:]), (8,)} - {()}:
            yield other, answers


def lots_of_rings(both, wide):
    """The dict with for each firm LOT of both a RING of it."""
    found = {}
    for ring in RINGS[wide] + [word for word in oracle.least_words(both).values()]:
        found.setdefault(oracle.lot_of_ring(both, ring), ring)
    return found


class Kept:
    """What a promise keeps, told by RINGS and with all ROWS tried."""

    def __init__(self, question, promise):
        other, answers = promise
        self.both = joined(question, other)
        rings = lots_of_rings(self.both, width(question))
        assert sorted(rings) == oracle.firm(self.both)
        self.every = sorted({oracle.answer(question, ring) for ring in rings.values()})
        self.told = {lot: oracle.answer(question, rings[lot]) for lot in sorted(rings)
                     if oracle.answer(other, rings[lot]) in answers}
        self.grades = {lot: self.longest(lot) for lot in self.told}

    def longest(self, lot):
        rows, size = [(lot,)], 0
        while rows:
            size += 1
            rows = [row + (own,) for row in rows for own in self.told if self.told[own] != self.told[row[-1]]
                    and oracle.lot_under(self.both, own, row[-1])]
        return size

    def left(self, stretches):
        return [lot for lot in oracle.lots_left(self.both, stretches) if lot in self.told]

    def to_come(self, stretches, said):
        return max([self.grades[lot] for lot in self.left(stretches) if self.told[lot] != said], default=0)

    def safe(self, stretches, said, many):
        return tuple(told for told in self.every
                     if (0 if told == said else 1) + self.to_come(stretches, told) <= many)


class IsPromise(Case):
    def test_is_promise(self):
        for thing, so in (
            (NO_THREE, True), (NO_RING, True), (ANY, True), ((THREE, (0, 7, 10 ** 30)), True), ((ONE, (7,)), True),
            ((THREE, ()), False), ((THREE, [0]), False), ([THREE, (0,)], False), ((list(THREE), (0,)), False), ((THREE, (1, 0)), False),
            ((THREE, (0, 0)), False), ((THREE, (-1, 0)), False), ((THREE, (True,)), False), ((THREE, (0, True)), False),
            ((THREE, (0, None)), False), ((THREE, ("0",)), False), ((THREE, 0), False), ((THREE,), False), ((THREE, (0,), (1,)), False),
            (((((0, 0, 2), (1, 1, 1)), (0, 1)), (0,)), False), ((THREE[0], (0,)), False), (THREE, False), ((), False), (None, False),
            (1, False), ("promise", False), (((), (0,)), False), ((ODD, (1,)), False), ((FIRST, (0, 1)), False), ((TWO, (1,)), False),
            ((MUCH, (1,)), False), ((COUNTED, (9,)), False), ((LARGE, (0, 3)), True), ((SIDE, (0,)), True), ((THREE, ((0,),)), False),
        ):
            self.gives(so, is_promise, thing)

    def test_too_many_doings(self):
        for question in (TOO_MUCH, TOO_LARGE):
            self.refuses(TooMuch(), is_promise, (question, (0,)))
            # No set of numbers from 0, not (), or no tuple: no error.
            for thing in ((question, ()), (question, (1, 0)), (question, [0]), (question, (True,)), (question, (-1,)), [question, (0,)],
                          (question,), (list(question), (0,)), (question, (0,), 0)):
                self.gives(False, is_promise, thing)

    def test_nested_deep(self):
        thing = ()
        for _ in range(97):
            thing = (thing,)
        for own in (thing, (thing, thing), (THREE, thing), (THREE, (thing,)), (thing, (0,))):
            self.gives(False, is_promise, own)


class Swing(Case):
    def test_kept_lots(self):
        for question, promise, want in (
            (GREATEST, NO_THREE, (0, 1)), (GREATEST, A_THREE, (2,)), (GREATEST, ANY, (0, 1, 2)), (GREATEST, NO_RING, ()),
            (SOME, (SIDE, (0,)), (0, 1)), (SOME, (SIDE, (1,)), (2,)), (MADE[1], (SOME, (1,)), (1, 3)), (ONE, (ONE, (7,)), (0,)),
            (ONE, (ONE, (0,)), ()), (GREATEST, (ONE_WIDE, (0,)), (0, 1, 2)),
        ):
            self.gives(want, kept_lots, question, promise)

    def test_promised_swing(self):
        for question, promise, want in (
            (GREATEST, NO_THREE, 2), (GREATEST, A_THREE, 1), (GREATEST, ANY, 3), (GREATEST, NO_RING, 0), (SOME, (SOME, (0,)), 1),
            (SOME, (SIDE, (0,)), 2), (SOME, (SIDE, (1,)), 1), (RANKS, (EITHER, (1,)), 2), (RANKS, NO_THREE, 2), (RANKS, (BOTH, (0,)), 2),
            (BOTH, (RANKS, (1,)), 2), (LARGE, (ONE_WIDE, (0,)), 4), (LARGE, (THREE, (0,)), 2), (LARGE, (THREE, (1,)), 2), (ONE, (ONE, (1, 7)), 1),
            (MIXED, (SOME, (1,)), 2),
        ):
            self.gives(want, promised_swing, question, promise)

    def test_promised_grade(self):
        for question, promise, ring, want in (
            (GREATEST, NO_THREE, (1, 1), 2), (GREATEST, NO_THREE, (1, 2), 1), (GREATEST, A_THREE, (1, 3), 1), (GREATEST, ANY, (1,), 3),
            (GREATEST, ANY, (3,) * 60, 1), (SOME, (SIDE, (0,)), (1,), 2), (RANKS, (EITHER, (1,)), (3, 1), 2),
        ):
            self.gives(want, promised_grade, question, promise, ring)

    def test_ring_does_not_keep_it(self):
        for question, promise, ring in ((GREATEST, NO_THREE, (1, 3)), (GREATEST, A_THREE, (1, 2)), (GREATEST, NO_RING, (1,)),
                                        (SOME, (SIDE, (0,)), (2,)), (ONE, (ONE, (0,)), (1,))):
            self.refuses(CanNot(), promised_grade, question, promise, ring)

    def test_as_rings_tell(self):
        for question in FEW_ANSWERS:
            for promise in some_promises(question):
                own = Kept(question, promise)
                self.same(kept_lots(question, promise), tuple(own.told))
                self.same(promised_swing(question, promise), max(own.grades.values(), default=0))
                self.assertLessEqual(promised_swing(question, promise), swing(question))
                for ring in RINGS[width(question)][::5]:
                    lot = oracle.lot_of_ring(own.both, ring)
                    # A RING keeps the promise exactly if its LOT is kept.
                    self.same(lot in own.told, oracle.answer(promise[0], ring) in promise[1])
                    if lot in own.told:
                        self.same(promised_grade(question, promise, ring), own.grades[lot])
                    else:
                        self.assertRaises(CanNot, promised_grade, question, promise, ring)

    def test_nothing_is_gained_if_all_rings_keep_it(self):
        for question in FEW_ANSWERS:
            for other in (own for own in OPEN if width(own) == width(question)):
                self.same(promised_swing(question, (other, tuple(range(10)))), swing(question))


class Lowers(Case):
    def test_lowers(self):
        for question, other, want in (
            (GREATEST, THREE, ((0, 2), (1, 1))), (GREATEST, GREATEST, ((0, 1), (1, 1))), (SOME, SIDE, ((0, 2), (1, 1))),
            (SIDE, SOME, ((0, 1), (1, 2))), (ONE, ONE, ((7, 1),)), (RANKS, BOTH, ((0, 2), (1, 1))), (GREATEST, ONE_WIDE, ((0, 3),)),
            (RANKS, RANKS, ((0, 1), (1, 1), (2, 1))), (GREATEST, renamed(THREE, (8, 2)), ((2, 1), (8, 2))),
        ):
            self.gives(want, lowers, question, other)

    def test_as_promises_tell(self):
        for question in FEW_ANSWERS:
            for other in (own for own in FEW_ANSWERS[::3] if width(own) == width(question)):
                told = sorted({oracle.answer_of_lot(other, lot) for lot in oracle.firm(other)})
                self.same(lowers(question, other), tuple((own, promised_swing(question, (other, (own,)))) for own in told))


class Safe(Case):
    def test_promised_safe(self):
        for question, promise, stretches, said, many, want in (
            (GREATEST, NO_THREE, ((1, 2),), None, 0, ()), (GREATEST, NO_THREE, ((1, 2),), None, 1, (1,)),
            (GREATEST, NO_THREE, ((1, 2),), None, 2, (0, 1)), (GREATEST, NO_THREE, ((1,),), 0, 1, (0,)),
            (GREATEST, NO_THREE, ((1,),), 0, 0, ()), (GREATEST, NO_THREE, ((1,),), 1, 2, (0, 1)), (GREATEST, A_THREE, ((),), None, 2, (0, 1)),
            (GREATEST, NO_RING, ((),), None, 0, ()), (GREATEST, NO_RING, ((),), None, 1, (0, 1)), (GREATEST, NO_RING, ((),), 1, 0, (1,)),
            # All that keeps it is shut out by what was read.
            (GREATEST, NO_THREE, ((3,),), 0, 0, (0,)), (GREATEST, NO_THREE, ((3,),), None, 10 ** 30, (0, 1)),
            # Answers of RINGS that do not keep it are told, too.
            (RANKS, (EITHER, (0,)), ((1,),), None, 1, (0,)), (RANKS, (EITHER, (0,)), ((1,),), None, 2, (0, 1, 2)),
        ):
            self.gives(want, promised_safe, question, promise, stretches, said, many)

    def test_promised_sure(self):
        for question, promise, stretches, want in (
            (GREATEST, A_THREE, ((),), 0), (GREATEST, NO_THREE, ((1, 2), ()), 1), (GREATEST, NO_THREE, ((1,),), None),
            (GREATEST, NO_RING, ((),), None), (GREATEST, NO_THREE, ((3,),), None), (GREATEST, NO_THREE, ((1,), (2,)), 1),
            (GREATEST, ANY, ((2,),), None), (GREATEST, ANY, ((2, 3),), 0), (RANKS, (EITHER, (0,)), ((),), 0), (ONE, (ONE, (7,)), ((1,),), 7),
            (SOME, (SIDE, (1,)), ((1, 1),), 1),
        ):
            self.gives(want, promised_sure, question, promise, stretches)

    def test_as_rings_tell(self):
        for question in FEW_ANSWERS[::2]:
            wide = width(question)
            for promise in some_promises(question):
                own = Kept(question, promise)
                for stretches in (((),), ((1,),), ((wide, 1), (1,)), ((1, 1), (wide,), ())):
                    answers = {own.told[lot] for lot in own.left(stretches)}
                    self.same(promised_sure(question, promise, stretches), min(answers) if len(answers) == 1 else None)
                    for said, many in [(None, 1), (None, 2), (8, 0), *zip(own.every, (1, 0, 2, 1))]:
                        self.same(promised_safe(question, promise, stretches, said, many), own.safe(stretches, said, many))

    def test_with_nothing_promised_it_is_as_without(self):
        for question in (own for own in FEW_ANSWERS if width(own) == 3):
            for word, many in itertools.product(words_to(3, 2), range(4)):
                self.same(promised_safe(question, ANY, (word,), 1, many), safe(question, (word,), 1, many))
                self.same(promised_sure(question, ANY, (word,)), sure_of(question, (word,)))


class Checks(Case):
    def calls(self):
        return ((kept_lots, ()), (promised_swing, ()), (promised_grade, ((1,),)), (promised_safe, (((),), None, 1)),
                (promised_sure, (((1,),),)))

    def test_errors_of_the_question_first(self):
        for question, error in ((TOO_MUCH, TooMuch()), (TOO_LARGE, TooMuch()), (ODD, Unfit()), (FIRST, Unfit()), (MUCH, Unfit())):
            for function, rest in self.calls():
                # Also with a promise of other letters, or one of letters with which both are too much.
                for promise in ((ONE, (7,)), (SOME, (0,)), NO_THREE):
                    self.refuses(error, function, question, promise, *rest)
            for other in (ONE, SOME, THREE, TOO_MUCH, ODD):
                self.refuses(error, lowers, question, other)

    def test_then_those_of_the_other_question(self):
        for other, error in ((TOO_MUCH, TooMuch()), (TOO_LARGE, TooMuch()), (ODD, Unfit()), (MUCH, Unfit()), (COUNTED, Unfit())):
            for question in (ONE, SOME, GREATEST):
                self.refuses(error, lowers, question, other)

    def test_then_other_letters(self):
        for question, promise in ((SOME, NO_THREE), (GREATEST, (SOME, (0,))), (ONE, (SOME, (1,))), (ONE_WIDE, (ONE, (7,))),
                                  (SOME, (LARGE, (0,)))):
            for function, rest in self.calls():
                self.refuses(Unfit(), function, question, promise, *rest)
            self.refuses(Unfit(), lowers, question, promise[0])

    def test_then_both_are_too_much(self):
        for function, rest in self.calls():
            # Ahead of CanNot(): no RING has this answer.
            self.refuses(TooMuch(), function, BOTH, (LARGE, (6,)), *rest)
        for question, other in ((LARGE, BOTH), (BOTH, LARGE)):
            self.refuses(TooMuch(), lowers, question, other)

    def test_then_there_is_none(self):
        self.refuses(CanNot(), promised_grade, GREATEST, NO_THREE, (1, 3))



if __name__ == "__main__":
    unittest.main()
