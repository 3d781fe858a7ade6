"""Point 6: doings and lots."""

import itertools
import unittest

from roundtold.doings import (
    doing_of, doings, firm_lots, is_firm, is_under, least_ring, lot_of, lots, lots_under, ring_lot, then, word_for,
)
from roundtold.errors import CanNot, NoPlace, TooMuch, Unfit
from roundtold.questions import least_question
from roundtold.rings import turned
from tests import oracle
from tests.helper import Case, words_to
from tests.samples import (
    COUNTED, FIRST, GREATEST, LARGE, LATE, LOST, MIDDLE, MUCH, ODD, ONE, OPEN, ROUND, SECOND, SIDE, SIX_STATES, SMALL,
    SOME, TOO_LARGE, TOO_MUCH, TWO,
)

ALL = SMALL + MIDDLE[::5] + SIX_STATES + OPEN + [FIRST, LATE, ODD, SECOND, TWO]
FEW = [SOME, FIRST, ODD, SECOND, TWO, GREATEST, SIDE, LOST, MIDDLE[3], MIDDLE[40], MIDDLE[90], MIDDLE[130]]


def long_way(many):
    """The QUESTION of so many DOINGS that tells how many letters there are, all together as many or more."""
    return tuple((min(state + 1, many),) for state in range(many + 1)), tuple(range(many + 1))


class Doings(Case):
    def test_doing_of(self):
        for question, word, want in (
            (GREATEST, (1, 2, 1), (1, 1, 2)), (GREATEST, (1,), (0, 1, 2)), (TWO, (1,), (1, 2, 2)),
            (COUNTED, (1,) * 4, (4, 5, 5, 5, 5, 5)), (ROUND, (1,) * 8, (2, 3, 4, 5, 0, 1)), (ODD, (2, 1, 2), (0, 1)),
            (ONE, (1,) * 60, (0,)),
            # Of the least QUESTION.
            ((((1, 2), (0, 2), (2, 2)), (0, 0, 1)), (1, 1), (0, 1)), (LOST, (1, 2), (1, 1)), (LOST, (1, 1, 1), (1, 0)),
        ):
            self.gives(want, doing_of, question, word)

    def test_letter_by_letter(self):
        for question in ALL:
            for word in words_to(len(question[0][0]), 4, 1):
                self.same(doing_of(question, word), oracle.doing_of(question, word))

    def test_the_empty_word_has_no_doing(self):
        for question in (ONE, SOME, GREATEST, LARGE, MUCH):
            self.refuses(Unfit(), doing_of, question, ())

    def test_then(self):
        for one, other, want in (
            ((1, 2, 2), (0, 0, 1), (0, 1, 1)), ((), (), ()), ((0,), (0,), (0,)), ((1, 0), (1, 1), (1, 1)),
            ((1, 1), (1, 0), (0, 0)), ((2, 0, 1), (2, 0, 1), (1, 2, 0)), ((3, 3, 3, 3), (0, 1, 2, 0), (0, 0, 0, 0)),
        ):
            self.gives(want, then, one, other)
        self.gives(tuple(range(300)), then, tuple(reversed(range(300))), tuple(reversed(range(300))))

    def test_then_is_read_in_order(self):
        for question in FEW:
            for one, other in itertools.product(words_to(len(question[0][0]), 2, 1), repeat=2):
                self.same(then(doing_of(question, one), doing_of(question, other)), doing_of(question, one + other))

    def test_doings(self):
        for question, want in (
            (ODD, ((0, 1), (1, 0))), (SOME, ((0, 1), (1, 1))), (TWO, ((1, 2, 2), (2, 2, 2))), (ONE, ((0,),)),
            (FIRST, ((1, 1, 2), (2, 1, 2))), (LOST, ((0, 0), (0, 1), (1, 0), (1, 1))),
            (COUNTED, tuple(tuple(min(state + more, 5) for state in range(6)) for more in range(1, 6))),
        ):
            self.gives(want, doings, question)

    def test_all_doings(self):
        for question in ALL + [MUCH, LARGE]:
            self.same(doings(question), tuple(sorted(oracle.all_doings(question))))
            many = len(least_question(question)[0])
            self.assertLessEqual(len(doings(question)), many ** many)

    def test_word_for(self):
        self.gives((3,), word_for, GREATEST, (2, 2, 2))
        self.gives((1,), word_for, TWO, (1, 2, 2))
        self.gives((1, 1), word_for, TWO, (2, 2, 2))
        self.gives((1,) * 6, word_for, ROUND, (0, 1, 2, 3, 4, 5))
        self.gives((2, 1), word_for, SIDE, doing_of(SIDE, (2, 1, 1, 1)))

    def test_least_words(self):
        for question in ALL:
            for doing, word in oracle.least_words(question).items():
                self.same(word_for(question, doing), word)

    def test_no_word(self):
        for question, doing in (
            (SOME, (0, 0)), (SOME, (1, 0)), (TWO, (0, 1, 2)), (SOME, ()), (SOME, (0, 1, 1)), (SOME, (0,)),
            (SOME, (-1, 9)),
            (ONE, (1,)), (GREATEST, (0, 1, 1)), (FIRST, (0, 1, 2)), ((((1, 2), (0, 2), (2, 2)), (0, 0, 1)), (1, 0, 2)),
        ):
            self.refuses(CanNot(), word_for, question, doing)


class Under(Case):
    def test_is_under(self):
        for question, one, other, so in (
            (GREATEST, (2, 2, 2), (1, 1, 2), True), (GREATEST, (1, 1, 2), (2, 2, 2), False),
            (ODD, (0, 1), (1, 0), True),
            (GREATEST, (2, 2, 2), (0, 1, 2), True), (GREATEST, (0, 1, 2), (0, 1, 2), True),
            (TWO, (2, 2, 2), (1, 2, 2), True),
            (TWO, (1, 2, 2), (2, 2, 2), False), (TWO, (1, 2, 2), (1, 2, 2), True), (FIRST, (1, 1, 2), (2, 1, 2), True),
            (FIRST, (2, 1, 2), (1, 1, 2), True),
        ):
            self.gives(so, is_under, question, one, other)

    def test_no_doings(self):
        for one, other in (((0, 0), (0, 1)), ((0, 1), (0, 0)), ((1, 0), (1, 0)), ((), (0, 1)), ((0, 1), ()),
                           ((0, 1, 2), (0, 1)),
                           ((0, 1), (0,))):
            self.refuses(Unfit(), is_under, SOME, one, other)
        # The least QUESTION's count alone.
        self.refuses(Unfit(), is_under, (((1, 2), (0, 2), (2, 2)), (0, 0, 1)), (1, 0, 2), (1, 0, 2))

    def test_as_it_is_said(self):
        for question in ALL:
            every = sorted(oracle.all_doings(question))
            for one, other in itertools.product(every, every[::2] + every[-1:]):
                self.same(is_under(question, one, other), one in oracle.under(question, other))


class Lots(Case):
    def test_lots(self):
        for question, want in (
            (GREATEST, (((0, 1, 2),), ((1, 1, 2),), ((2, 2, 2),))), (ODD, (((0, 1), (1, 0)),)),
            (FIRST, (((1, 1, 2), (2, 1, 2)),)), (TWO, (((1, 2, 2),), ((2, 2, 2),))), (ONE, (((0,),),)),
            (LATE, (((1, 1, 2),), ((2, 2, 2),))),
        ):
            self.gives(want, lots, question)

    def test_numbered_by_least_words(self):
        for question in ALL + [own for own in MIDDLE if own not in ALL]:
            self.same(lots(question), tuple(tuple(sorted(own)) for own in oracle.lots(question)))
        # The least one of the LOT that is under all others may come first.
        question = (((1, 0), (1, 1)), (0, 1))
        self.gives((((1, 1),), ((0, 1),)), lots, question)

    def test_lot_of(self):
        for question in ALL:
            for lot, own in enumerate(oracle.lots(question)):
                for doing in own:
                    self.same(lot_of(question, doing), lot)
        self.gives(1, lot_of, TWO, (2, 2, 2))
        self.gives(0, lot_of, ODD, (1, 0))

    def test_no_lot_has_it(self):
        for question, doing in ((SOME, (0, 0)), (SOME, (1, 0)), (SOME, ()), (TWO, (0, 1, 2)), (FIRST, (0, 1, 2)),
                                (ONE, (0, 0))):
            self.refuses(Unfit(), lot_of, question, doing)

    def test_lots_under(self):
        for question, lot, want in ((GREATEST, 0, (0, 1, 2)), (GREATEST, 1, (1, 2)), (GREATEST, 2, (2,)),
                                    (TWO, 0, (0, 1)),
                                    (TWO, 1, (1,)), (ODD, 0, (0,)), ((((1, 0), (1, 1)), (0, 1)), 1, (0, 1)),
                                    ((((1, 0), (1, 1)), (0, 1)), 0, (0,))):
            self.gives(want, lots_under, question, lot)
        for question in ALL:
            every = range(len(oracle.lots(question)))
            for lot in every:
                want = tuple(other for other in every if oracle.lot_under(question, other, lot))
                self.same(lots_under(question, lot), want)

    def test_just_one_lot_is_under_all_others(self):
        for question in ALL + [MUCH, LARGE]:
            under = [lots_under(question, lot) for lot in range(len(lots(question)))]
            last = [lot for lot in range(len(under)) if all(lot in own for own in under)]
            self.assertEqual(len(last), 1)
            self.assertTrue(is_firm(question, last[0]))
            for one, other in itertools.permutations(range(len(under)), 2):
                self.assertFalse(one in under[other] and other in under[one])

    def test_firm(self):
        for question, want in ((TWO, (1,)), (GREATEST, (0, 1, 2)), (ODD, (0,)), (FIRST, (0,)), (COUNTED, (4,)),
                               (ROUND, (0,)),
                               (SOME, (0, 1))):
            self.gives(want, firm_lots, question)
        for question, lot, so in ((TWO, 0, False), (TWO, 1, True), (ODD, 0, True), (COUNTED, 3, False),
                                  (COUNTED, 4, True)):
            self.gives(so, is_firm, question, lot)
        for question in ALL:
            self.same(firm_lots(question), tuple(oracle.firm(question)))
            for lot in range(len(lots(question))):
                self.same(is_firm(question, lot), lot in oracle.firm(question))

    def test_a_lot_with_d_e_like_them_is_firm(self):
        for question in ALL:
            for lot, own in enumerate(lots(question)):
                inside = any(then(one, other) in own for one, other in itertools.product(own, repeat=2))
                self.same(is_firm(question, lot), inside)

    def test_no_such_lot(self):
        for function in (lots_under, is_firm, least_ring):
            for question, many in ((SOME, 2), (ODD, 1), (TWO, 2), (COUNTED, 5), (SIDE, 2)):
                for lot in (many, many + 1, -1, -many, 10 ** 30):
                    self.refuses(NoPlace(lot), function, question, lot)


class OfRings(Case):
    def test_ring_lot(self):
        for question, ring, lot in ((TWO, (1,), 1), (GREATEST, (2, 1), 1), (FIRST, (2, 1), 0), (COUNTED, (1,), 4),
                                    (GREATEST, (1,) * 59 + (3,), 2), (SOME, (1, 1), 0), (SOME, (2,), 1),
                                    (MUCH, (1,) * 7, 3)):
            self.gives(lot, ring_lot, question, ring)

    def test_of_great_powers(self):
        for question in ALL:
            for ring in words_to(len(question[0][0]), 3, 1):
                lot = ring_lot(question, ring)
                for many in (60, 61, 62, 97):
                    self.same(oracle.lot_of_doing(question, oracle.doing_of(question, ring * many)), lot)
                self.assertIn(lot, lots_under(question, lot_of(question, doing_of(question, ring))))

    def test_turned_ones_and_powers_have_one_lot(self):
        for question in FEW:
            for ring in words_to(len(question[0][0]), 4, 1):
                lot = ring_lot(question, ring)
                self.same([ring_lot(question, turned(ring, room)) for room in range(len(ring))], [lot] * len(ring))
                self.same([ring_lot(question, ring * many) for many in (2, 3, 5)], [lot] * 3)

    def test_least_ring(self):
        for question, lot, ring in ((GREATEST, 0, (1,)), (GREATEST, 1, (2,)), (GREATEST, 2, (3,)), (TWO, 1, (1,)),
                                    (ODD, 0, (1,)),
                                    (COUNTED, 4, (1,)), (FIRST, 0, (1,))):
            self.gives(ring, least_ring, question, lot)

    def test_as_all_rings_tell(self):
        for question in ALL + MIDDLE:
            least = {}
            for ring in words_to(len(question[0][0]), 5, 1):
                least.setdefault(oracle.lot_of_ring(question, ring), ring)
            # A firm LOT is that of a RING, another one is of none.
            self.same(sorted(least), oracle.firm(question))
            for lot in range(len(oracle.lots(question))):
                if lot in least:
                    self.same(least_ring(question, lot), least[lot])
                else:
                    self.assertRaises(Unfit, least_ring, question, lot)

    def test_not_firm(self):
        self.refuses(Unfit(), least_ring, TWO, 0)
        for lot in range(4):
            self.refuses(Unfit(), least_ring, COUNTED, lot)


class TooManyDoings(Case):
    def test_up_to_there_they_answer(self):
        for question in (MUCH, LARGE, long_way(200)):
            self.assertEqual(len(doings(question)), 200)
            self.assertEqual(sum(map(len, lots(question))), 200)
        self.gives((1,) * 200, word_for, long_way(200), (200,) * 201)
        self.gives((1,), least_ring, long_way(200), 199)
        # As many STATES as one likes, if the least QUESTION has few.
        self.gives(((0,),), doings, (long_way(300)[0], (4,) * 301))

    def test_first_of_all(self):
        for question in (TOO_MUCH, TOO_LARGE, long_way(201)):
            for function, rest in (
                (doing_of, ((1,),)), (doing_of, ((),)), (doings, ()), (word_for, ((0,),)), (word_for, ((),)),
                (is_under, ((), ())), (lots, ()), (lot_of, ((0, 0),)), (lots_under, (0,)), (lots_under, (-1,)),
                (is_firm, (0,)), (is_firm, (999,)), (firm_lots, ()), (ring_lot, ((1,),)), (least_ring, (0,)),
                (least_ring, (-1,)),
            ):
                self.refuses(TooMuch(), function, question, *rest)

    def test_as_many_as_can_be(self):
        # All that six STATES can be led to: 6^6, found to be too many long before.
        full = (((1, 1, 1), (2, 0, 1), (3, 2, 2), (4, 3, 3), (5, 4, 4), (0, 5, 5)), (0, 1, 2, 3, 4, 5))
        self.refuses(TooMuch(), doings, full)
        self.refuses(TooMuch(), lots, full)


if __name__ == "__main__":
    unittest.main()
