"""Point 10: grades."""

import itertools
import unittest

from roundtold.answerable import is_open
from roundtold.errors import NoPlace, TooMuch, Unfit
from roundtold.grades import grade, grades, greatest_row, is_row, ring_grade, row, rows_from, swing
from roundtold.questions import renamed, turned_about
from roundtold.rings import turned
from tests import oracle
from tests.helper import Case, words_to
from tests.samples import (
    BESIDE, BOTH, COUNTED, FIRST, GREATEST, LARGE, MADE, MIXED, MUCH, ODD, ONE, OPEN, RANKS, SIDE, SMALL, SOME, TOO_LARGE,
    TOO_MUCH, TWO,
)

ALL = OPEN + MADE + [own for own in SMALL if is_open(own)]
HAS_TWO = MADE[1]
# ANSWERS that fall and rise: the GRADE of a LOT does not tell that of the next one alone.
RISING = MADE[-1]


class Grades(Case):
    def test_grades(self):
        for question, want in (
            (SOME, (2, 1)), (GREATEST, (3, 2, 1)), (RANKS, (3, 1, 2)), (ONE, (1,)), (BOTH, (2, 2, 2, 1)), (SIDE, (2, 1)),
            (HAS_TWO, (None, 2, 2, 1)), (RISING, (2, 3, 1)), (MIXED, (2, 2, 1)),
        ):
            self.gives(want, grades, question)
            for lot, own in enumerate(want):
                if own is None:
                    self.refuses(Unfit(), grade, question, lot)
                else:
                    self.gives(own, grade, question, lot)

    def test_ring_grade(self):
        for question, ring, want in ((GREATEST, (1, 2, 1), 2), (GREATEST, (1,) * 60, 3), (GREATEST, (3, 1), 1), (SIDE, (2,), 1),
                                     (SIDE, (1, 2), 2), (RANKS, (3,), 2), (RANKS, (2, 3), 1), (HAS_TWO, (1,), 2), (ONE, (1,), 1)):
            self.gives(want, ring_grade, question, ring)

    def test_swing(self):
        for question, want in ((SOME, 2), (GREATEST, 3), ((((0,),), (7,)), 1), (RANKS, 3), (BOTH, 2), (RISING, 3), (LARGE, 4)):
            self.gives(want, swing, question)

    def test_as_all_rows_tell(self):
        for question in ALL:
            longest = oracle.longest_rows(question)
            every = range(len(oracle.lots(question)))
            want = tuple(len(longest[lot][0]) if lot in longest else None for lot in every)
            self.same(grades(question), want)
            self.same(swing(question), max(len(rows[0]) for rows in longest.values()))
            for lot in longest:
                self.same(row(question, lot), min(longest[lot]))
            self.same(greatest_row(question), min(own for rows in longest.values() for own in rows
                                                  if len(own) == swing(question)))
            answers = {lot: oracle.answer_of_lot(question, lot) for lot in longest}
            for answer in range(12):
                among = [want[lot] for lot in longest if answers[lot] == answer]
                self.same(rows_from(question, answer), max(among, default=0))

    def test_of_rings(self):
        for question in OPEN + MADE:
            told = grades(question)
            for ring in words_to(len(question[0][0]), 4, 1):
                self.same(ring_grade(question, ring), told[oracle.lot_of_ring(question, ring)])

    def test_what_has_one_grade(self):
        for question in (SIDE, BESIDE, GREATEST, RANKS, RISING, MADE[3], MADE[6]):
            unlike, about = renamed(question, (3, 5, 1, 0, 0, 0, 0, 0, 0, 0, 2, 7)), turned_about(question)
            self.same([swing(unlike), swing(about)], [swing(question)] * 2)
            for ring in words_to(len(question[0][0]), 4, 1):
                told = ring_grade(question, ring)
                self.same([ring_grade(question, turned(ring, 1)), ring_grade(question, ring * 3), ring_grade(unlike, ring),
                           ring_grade(about, ring[::-1])], [told] * 4)

    def test_under_a_lot_grades_are_no_greater(self):
        for question in ALL:
            for lot, other in itertools.product(oracle.firm(question), repeat=2):
                if oracle.lot_under(question, other, lot):
                    self.assertLessEqual(grade(question, other), grade(question, lot))


class Rows(Case):
    def test_row(self):
        for question, lot, want in ((GREATEST, 0, (0, 1, 2)), (GREATEST, 1, (1, 2)), (GREATEST, 2, (2,)), (RANKS, 0, (0, 2, 1)),
                                    (RANKS, 1, (1,)), (BOTH, 0, (0, 3)), (RISING, 1, (1, 0, 2)), (ONE, 0, (0,)),
                                    (MADE[3], 0, (0, 1, 3)), (MADE[3], 2, (2, 3))):
            self.gives(want, row, question, lot)

    def test_greatest_row(self):
        for question, want in ((SOME, (0, 1)), (renamed(RANKS, (1, 0, 3)), (0, 2, 1)), (ONE, (0,)), (BOTH, (0, 3)),
                               (HAS_TWO, (1, 3)), (RISING, (1, 0, 2)), (MADE[3], (0, 1, 3)), (LARGE, (1, 16, 4, 8))):
            self.gives(want, greatest_row, question)

    def test_rows_from(self):
        for question, answer, want in ((SOME, 0, 2), (SOME, 1, 1), (SOME, 2, 0), (GREATEST, 0, 3), (GREATEST, 1, 2), (RANKS, 1, 1),
                                       (RANKS, 2, 2), (ONE, 7, 1), (ONE, 0, 0), (ONE, 10 ** 30, 0), (LARGE, 1, 3), (LARGE, 4, 0)):
            self.gives(want, rows_from, question, answer)

    def test_is_row(self):
        for thing, so in (
            ((0, 1, 2), True), ((1,), True), ((0, 2), False), ((1, 0), False), ((), False), ([0, 1], False), ((0, True), False),
            ((3,), False), ((0, 1), True), ((1, 2), True), ((0,), True), ((2,), True), ((0, 0), False), ((0, 1, 1), False),
            ((0, 1, 2, 2), False), ((0, 1, 2, 0), False), ((-1,), False), ((1, -1), False), ((0, 1, 3), False), ([], False),
            (0, False), (None, False), ("01", False), ("", False), (True, False), ((0, (1,)), False), (((0, 1),), False),
            ((0, None), False), ((None,), False), (("0",), False), ((False, 1), False), ((0, 1, "2"), False), ((0, 10 ** 30), False),
            ((0, 1) * 3000, False), ((0,) * 3000, False), ([[]], False), (((),), False),
        ):
            self.gives(so, is_row, GREATEST, thing)
        for question, thing, so in ((HAS_TWO, (0,), False), (HAS_TWO, (0, 3), False), (HAS_TWO, (1, 3), True), (HAS_TWO, (1, 2), False),
                                    (BOTH, (1, 2), False), (BOTH, (2, 3), True), (RANKS, (1, 2), False), (RANKS, (2, 1), True),
                                    (RANKS, (0, 1), True), (RANKS, (0, 2, 1), True), (MADE[3], (1, 2), False), (RANKS, (0, 1, 2), False)):
            self.gives(so, is_row, question, thing)

    def test_is_row_as_it_is_said(self):
        for question in OPEN + MADE:
            answers = {lot: oracle.answer_of_lot(question, lot) for lot in oracle.firm(question)}
            for size in (1, 2, 3):
                for thing in itertools.product(range(-1, len(oracle.lots(question)) + 1), repeat=size):
                    so = all(lot in answers for lot in thing) and all(
                        oracle.lot_under(question, other, lot) and answers[lot] != answers[other]
                        for lot, other in zip(thing, thing[1:]))
                    self.same(is_row(question, thing), so)

    def test_nested_deep(self):
        thing = ()
        for _ in range(98):
            thing = (thing,)
        for own in (thing, (0, thing), (thing, 0), [thing]):
            self.gives(False, is_row, SOME, own)


class Checks(Case):
    def calls(self):
        """Each function, and what else it takes, also LOTS that are none."""
        return ((grade, (0,)), (grade, (-1,)), (grade, (999,)), (grades, ()), (ring_grade, ((1,),)), (swing, ()), (row, (0,)),
                (row, (10 ** 30,)), (greatest_row, ()), (is_row, ((0,),)), (is_row, (None,)), (rows_from, (0,)), (rows_from, (9,)))

    def test_too_many_doings_first(self):
        for question in (TOO_MUCH, TOO_LARGE):
            for function, rest in self.calls():
                self.refuses(TooMuch(), function, question, *rest)

    def test_then_not_open(self):
        for question in (ODD, FIRST, TWO, COUNTED, MUCH):
            for function, rest in self.calls():
                self.refuses(Unfit(), function, question, *rest)

    def test_then_no_such_lot(self):
        for question, many in ((SOME, 2), (ONE, 1), (HAS_TWO, 4)):
            for lot in (many, many + 7, -1, -many, 10 ** 30):
                self.refuses(NoPlace(lot), grade, question, lot)
                self.refuses(NoPlace(lot), row, question, lot)

    def test_then_not_firm(self):
        for question, lot in ((HAS_TWO, 0), (MADE[0], 0), (MADE[2], 1), (LARGE, 0), (LARGE, 15)):
            self.refuses(Unfit(), grade, question, lot)
            self.refuses(Unfit(), row, question, lot)


if __name__ == "__main__":
    unittest.main()
