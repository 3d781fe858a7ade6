"""Point 11: words that may be said."""

import itertools
import unittest

from roundtold.answerable import ring_answer
from roundtold.errors import NoPlace, TooMuch, Unfit
from roundtold.grades import is_row, swing
from roundtold.rings import read
from roundtold.safe import (
    is_row_to_come, may_be_silent, plain_says, row_to_come, safe, slip, words_to_come,
)
from roundtold.still import lots_left
from tests import oracle
from tests.helper import Case, words_to
from tests.samples import (
    BOTH, COUNTED, FIRST, GREATEST, LARGE, MADE, MUCH, ODD, ONE, OPEN, RANKS, SIDE, SOME, TOO_LARGE, TOO_MUCH, TWO,
)

HAS_ONES, HAS_TWO, RISING = MADE[0], MADE[1], MADE[-1]
RINGS = {1: words_to(1, 5, 1), 2: words_to(2, 7, 1), 3: words_to(3, 4, 1)}


def stretches_of(question):
    """Some STRETCHES, short ones."""
    wide = len(question[0][0])
    return [(word,) for word in words_to(wide, 2)] + [((1,), (wide,)), ((), (wide, 1), (1, 1)), ((1, wide, 1, 1),)]


def saids_of(question):
    return [None] + sorted({oracle.answer_of_lot(question, lot) for lot in oracle.firm(question)}) + [8]


def words_of(says):
    """The words among what is said, and how many steps came ahead of each."""
    found = []
    for told in says:
        if told is not None and (not found or found[-1] != told):
            found.append(told)
    return found


class ToCome(Case):
    def test_words_to_come(self):
        for question, stretches, said, want in (
            (GREATEST, ((),), None, 3), (GREATEST, ((1, 1),), 0, 2), (GREATEST, ((1, 2),), 1, 1), (GREATEST, ((3,),), 0, 0),
            (GREATEST, ((2,), (3,)), 1, 1), (GREATEST, ((1,),), 1, 3), (GREATEST, ((1,),), 7, 3), (GREATEST, ((2,),), 0, 2),
            (GREATEST, ((2,),), None, 2), (GREATEST, ((3,),), None, 1), (GREATEST, ((3,),), 10 ** 30, 1), (ONE, ((),), 7, 0),
            (ONE, ((1, 1), ()), None, 1), (ONE, ((1,),), 0, 1), (RANKS, ((3,),), 0, 2), (RANKS, ((3,),), 2, 1), (RANKS, ((2,),), 1, 0),
            (RANKS, ((3,),), 1, 2), (BOTH, ((2,), (3,)), 0, 1), (BOTH, ((2,),), 0, 1), (BOTH, ((2,),), 1, 2), (SIDE, ((2, 2),), 0, 1),
            (SIDE, ((2, 2),), 1, 0), (SIDE, ((2, 1),), 1, 2), (HAS_TWO, ((1,),), 0, 1), (HAS_TWO, ((1,),), None, 2),
            (RISING, ((),), None, 3), (LARGE, ((),), None, 4), (LARGE, ((3,),), 1, 2),
        ):
            self.gives(want, words_to_come, question, stretches, said)

    def test_as_lots_tell(self):
        for question in OPEN + MADE:
            for stretches, said in itertools.product(stretches_of(question), saids_of(question)):
                self.same(words_to_come(question, stretches, said), oracle.to_come(question, stretches, said))

    def test_as_rings_tell(self):
        for question in OPEN:
            longest = oracle.longest_rows(question)
            for stretches in stretches_of(question)[:4]:
                left = [ring for ring in RINGS[len(question[0][0])] if oracle.may_be(stretches, ring)]
                for said in saids_of(question):
                    some = [len(longest[oracle.lot_of_ring(question, ring)][0]) for ring in left
                            if oracle.answer(question, ring) != said]
                    self.same(words_to_come(question, stretches, said), max(some, default=0))

    def test_row_to_come(self):
        for question, stretches, said, want in (
            (GREATEST, ((),), None, (0, 1, 2)), (GREATEST, ((3,),), 0, ()), (GREATEST, ((2,),), 1, (2,)), (ONE, ((),), 7, ()),
            (ONE, ((),), None, (0,)), (RANKS, ((3,),), 1, (2, 1)), (GREATEST, ((1,),), 0, (1, 2)), (RISING, ((),), None, (1, 0, 2)),
        ):
            self.gives(want, row_to_come, question, stretches, said)

    def test_row_to_come_is_one(self):
        for question in OPEN + MADE + [LARGE]:
            for stretches in stretches_of(question)[:: 9 if question == LARGE else 1]:
                for said in (None, 0, 1, 2, 9):
                    found = row_to_come(question, stretches, said)
                    self.assertIs(found.__class__, tuple)
                    self.same(len(found), words_to_come(question, stretches, said))
                    self.same(is_row_to_come(question, stretches, said, found), True)
                    self.same(row_to_come(question, stretches, said), found)

    def test_is_row_to_come(self):
        for question, stretches, said, thing, so in (
            (GREATEST, ((2,),), 0, (1, 2), True), (GREATEST, ((2,),), 0, (0, 1), False), (GREATEST, ((2,),), 0, (), True),
            (GREATEST, ((2,),), 0, (1,), True), (GREATEST, ((2,),), 0, (2,), False), (GREATEST, ((2,),), 1, (2,), True),
            (GREATEST, ((2,),), 1, (1, 2), False), (GREATEST, ((2,),), None, (1, 2), True), (GREATEST, ((2,),), None, (2,), True),
            (GREATEST, ((2,),), None, (0, 1, 2), False), (GREATEST, ((3,),), 0, (), True), (GREATEST, ((3,),), 0, (2,), False),
            (GREATEST, ((),), None, (0, 1, 2), True), (GREATEST, ((),), None, (0, 2), False), (GREATEST, ((2,),), 0, [1, 2], False),
            (GREATEST, ((2,),), 0, [], False), (GREATEST, ((2,),), 0, (True, 2), False), (GREATEST, ((2,),), 0, (1, 2, 3), False),
            (GREATEST, ((2,),), 0, None, False), (GREATEST, ((2,),), 0, 1, False), (GREATEST, ((2,),), 0, "", False),
            (GREATEST, ((2,),), 0, "12", False), (GREATEST, ((2,),), 0, ((1, 2),), False), (GREATEST, ((2,),), 0, (1, None), False),
            (GREATEST, ((2,),), 0, ((),), False), (GREATEST, ((2,),), 0, False, False), (GREATEST, ((2,),), 0, (1, 2) * 999, False),
            (HAS_TWO, ((),), None, (0, 3), False), (HAS_TWO, ((),), None, (1, 3), True), (GREATEST, ((2,),), 0, (-1,), False),
            (GREATEST, ((),), 0, (1, 2), True), (GREATEST, ((),), 0, (0, 1), False),
        ):
            self.gives(so, is_row_to_come, question, stretches, said, thing)

    def test_is_row_to_come_as_it_is_said(self):
        for question in (GREATEST, RANKS, BOTH, HAS_TWO, RISING, MADE[3]):
            every = range(len(oracle.lots(question)))
            for stretches, said in itertools.product(stretches_of(question)[::3], (None, 0, 1)):
                for thing in itertools.chain.from_iterable(itertools.product(every, repeat=size) for size in (1, 2)):
                    so = (is_row(question, thing) and thing[0] in lots_left(question, stretches)
                          and oracle.answer_of_lot(question, thing[0]) != said)
                    self.same(is_row_to_come(question, stretches, said, thing), so)

    def test_nested_deep(self):
        thing = ()
        for _ in range(99):
            thing = (thing,)
        self.gives(False, is_row_to_come, SOME, ((),), None, thing)


class Safe(Case):
    def test_safe(self):
        for question, stretches, said, many, want in (
            (GREATEST, ((1,),), None, 3, (0,)), (GREATEST, ((1,),), None, 4, (0, 1)), (GREATEST, ((2,),), 0, 2, (0, 1)),
            (GREATEST, ((2,),), 0, 1, ()), (GREATEST, ((1,),), None, 2, ()), (GREATEST, ((1,),), 0, 2, (0,)),
            (GREATEST, ((1,),), 0, 3, (0,)), (GREATEST, ((1,),), 0, 4, (0, 1)), (GREATEST, ((3,),), 0, 0, (0,)),
            (GREATEST, ((3,),), 1, 0, ()), (GREATEST, ((3,),), 1, 1, (0, 1)), (GREATEST, ((3,),), None, 0, ()),
            (GREATEST, ((3,),), None, 1, (0,)), (GREATEST, ((3,),), 5, 1, (0,)), (GREATEST, ((),), None, 10 ** 30, (0, 1)),
            (ONE, ((),), None, 0, ()), (ONE, ((),), None, 1, (7,)), (ONE, ((),), 7, 0, (7,)), (ONE, ((),), 3, 0, ()),
            # Also an answer that no RING has which still may be.
            (RANKS, ((2,),), None, 2, (0, 1, 2)), (RANKS, ((2,),), None, 1, (1,)), (RANKS, ((2,),), 2, 1, (1, 2)),
            # The ANSWER said is no answer of a RING.
            (SOME, ((),), 9, 1, ()), (SOME, ((),), 9, 2, (0,)), (SOME, ((),), 9, 3, (0, 1)),
            # More words are to come if 0 was not said: so it can be said, though one may not be silent.
            (SIDE, ((2, 2),), 0, 1, (0, 1)), (SIDE, ((2, 2),), 0, 0, ()), (MADE[4], ((2, 3),), None, 2, (3, 9)),
        ):
            self.gives(want, safe, question, stretches, said, many)

    def test_may_be_silent(self):
        for question, stretches, said, many, so in (
            (GREATEST, ((2,),), 0, 1, False), (GREATEST, ((2,),), 0, 2, True), (GREATEST, ((2,),), 1, 1, True),
            (GREATEST, ((3,),), 0, 0, True), (GREATEST, ((3,),), None, 0, False), (GREATEST, ((3,),), None, 1, True),
            (GREATEST, ((),), None, 2, False), (GREATEST, ((),), None, 3, True), (ONE, ((),), 7, 0, True), (ONE, ((),), 6, 0, False),
            (GREATEST, ((),), 7, 10 ** 30, True),
        ):
            self.gives(so, may_be_silent, question, stretches, said, many)

    def test_as_words_to_come_tell(self):
        for question in OPEN + MADE:
            answers = [own for own in saids_of(question)[1:-1]]
            for stretches, said, many in itertools.product(stretches_of(question)[::2], saids_of(question), range(5)):
                want = tuple(own for own in answers if (own != said) + oracle.to_come(question, stretches, own) <= many)
                self.same(safe(question, stretches, said, many), want)
                self.same(may_be_silent(question, stretches, said, many), oracle.to_come(question, stretches, said) <= many)


class Slips(Case):
    def test_plain_says(self):
        for question, ring, room, steps, want in (
            (GREATEST, (1, 2, 1, 3), 0, 5, (0, 1, 1, 0, 0)), (GREATEST, (1, 2, 1, 3), 3, 2, (0, 0)), (GREATEST, (2,), 0, 0, ()),
            (ONE, (1, 1), 1, 3, (7, 7, 7)), (HAS_TWO, (1,), 0, 3, (None, 0, 0)), (HAS_TWO, (2, 1), 1, 3, (None, 0, 0)),
            (HAS_TWO, (2, 1, 1), 0, 6, (0, 0, 1, 1, 1, 1)), (HAS_TWO, (2, 1, 1), 1, 6, (None, 0, 1, 1, 1, 1)),
            (RANKS, (1, 3, 2), 0, 4, (0, 2, 1, 1)), (GREATEST, (1,) * 59 + (2,), 0, 61, (0,) * 59 + (1, 1)),
        ):
            self.gives(want, plain_says, question, ring, room, steps)

    def test_plain_says_as_lots_tell(self):
        for question in OPEN + MADE:
            firm = oracle.firm(question)
            for ring in RINGS[len(question[0][0])][::3]:
                room = len(ring) // 2
                lots = [oracle.lot_of_doing(question, oracle.doing_of(question, read(ring, room, steps))) for steps in range(1, 9)]
                self.same(plain_says(question, ring, room, 8),
                          tuple(oracle.answer_of_lot(question, lot) if lot in firm else None for lot in lots))

    def test_plain_says_are_right_and_no_more_than_must_be(self):
        for question in OPEN + MADE:
            for ring in RINGS[len(question[0][0])][::5]:
                for room in range(len(ring)):
                    says = plain_says(question, ring, room, 25)
                    self.same(says[-1], ring_answer(question, ring))
                    self.assertLessEqual(len(words_of(says)), swing(question))
                    # Each word leaves fewer to come: so nothing ever slips.
                    self.same(slip(question, ring, room, says, swing(question)), None)

    def test_slip(self):
        for question, ring, room, says, many, want in (
            (GREATEST, (1, 2, 1, 3), 0, (0, 1, None, 0), 3, None), (GREATEST, (1, 2, 1, 3), 0, (0, 1, None, 0), 2, 0),
            (GREATEST, (1, 2, 1, 3), 0, (), 0, None), (GREATEST, (1, 2, 1, 3), 0, (None,), 2, 0),
            (GREATEST, (1, 2, 1, 3), 0, (None, None, None, None), 3, None), (GREATEST, (1, 2, 1, 3), 0, (1,), 3, 0),
            (GREATEST, (1, 2, 1, 3), 0, (1,), 4, None), (GREATEST, (1, 2, 1, 3), 0, (0, 0, 0, 0), 3, None),
            (GREATEST, (1, 2, 1, 3), 0, (0, 0, 0, 1), 3, None), (GREATEST, (1, 2, 1, 3), 0, (0, 0, 0, 1, 0), 3, None),
            (GREATEST, (1, 2, 1, 3), 0, (0, 0, 0, 1, 0, 1), 3, 5), (GREATEST, (1, 2, 1, 3), 0, (0, 1, 0, None), 3, 2),
            (GREATEST, (1, 2, 1, 3), 3, (0, 0, 0, 0), 1, None), (GREATEST, (1, 2, 1, 3), 3, (0, 0, None, 1), 1, 3),
            (GREATEST, (1, 2, 1, 3), 3, (1, 0), 2, None), (GREATEST, (1, 2, 1, 3), 3, (1, 0), 1, 0),
            (GREATEST, (2,), 0, (None, 1, 1, None, 1), 2, None), (GREATEST, (2,), 0, (0, 1), 2, 0), (GREATEST, (2,), 0, (1, 0), 2, 1),
            (GREATEST, (2,), 0, (1, 0), 10 ** 30, None), (GREATEST, (3,), 0, (None,), 0, 0), (GREATEST, (3,), 0, (0, None), 1, None),
            # An ANSWER that no RING has may be said, too, if there are words enough.
            (GREATEST, (3,), 0, (5, 0), 2, None), (GREATEST, (3,), 0, (5, 5, 5), 2, None), (GREATEST, (3,), 0, (5, 6), 2, 1),
            (GREATEST, (3,), 0, (5, 6), 3, None), (GREATEST, (3,), 0, (5,), 1, 0), (ONE, (1,), 0, (7,) * 200, 1, None),
            (ONE, (1,), 0, (7,) * 199 + (3,), 1, 199), (ONE, (1,), 0, (None,) * 200, 1, None), (ONE, (1,), 0, (7, 3, 7), 3, None),
            (ONE, (1,), 0, (7, 3, 7), 2, 1),
        ):
            self.gives(want, slip, question, ring, room, says, many)

    def test_slip_as_words_to_come_tell(self):
        for question in (GREATEST, SIDE, RANKS, HAS_TWO, RISING):
            for ring, room in (((1, 2), 0), ((2, 1, 1), 1), ((2, 2, 1), 2)):
                for says, many in itertools.product(itertools.product((None, 0, 1, 2), repeat=3), range(5)):
                    self.same(slip(question, ring, room, says, many), self.slowly(question, ring, room, says, many))

    def slowly(self, question, ring, room, says, many):
        said = None
        for step, told in enumerate(says):
            stretches = (read(ring, room, step + 1),)
            wanted = (told is not None and told != said)
            if wanted + oracle.to_come(question, stretches, said if told is None else told) > many:
                return step
            if wanted:
                said, many = told, many - 1
        return None


class Checks(Case):
    def calls(self):
        """Each function, and what else it takes, also a room that there is not."""
        return ((words_to_come, (((1,),), None)), (row_to_come, (((),), 0)), (is_row_to_come, (((),), 0, ())),
                (is_row_to_come, (((),), 0, None)), (safe, (((1,),), None, 3)), (may_be_silent, (((1,),), None, 3)),
                (plain_says, ((1,), 0, 2)), (plain_says, ((1,), 1, 0)), (slip, ((1,), 0, (None,), 3)), (slip, ((1,), -1, (), 0)))

    def test_too_many_doings_first(self):
        for question in (TOO_MUCH, TOO_LARGE):
            for function, rest in self.calls():
                self.refuses(TooMuch(), function, question, *rest)

    def test_then_not_open(self):
        for question in (ODD, FIRST, TWO, COUNTED, MUCH):
            for function, rest in self.calls():
                self.refuses(Unfit(), function, question, *rest)

    def test_then_no_such_room(self):
        for ring, room in (((1, 2), 2), ((1, 2), -1), ((1,), 1), ((1,) * 60, 60), ((2, 1), 10 ** 30)):
            for steps in (0, 1, 200):
                self.refuses(NoPlace(room), plain_says, SOME, ring, room, steps)
            for says in ((), (None,), (0, 1)):
                self.refuses(NoPlace(room), slip, SOME, ring, room, says, 0)


if __name__ == "__main__":
    unittest.main()
