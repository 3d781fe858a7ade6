"""Point 13: few words."""

import itertools
import unittest

from roundtold.errors import CanNot, NoPlace, TooMuch, Unfit
from roundtold.few import is_unserved, served, serves, speaks_behind, unserved, walker_for
from roundtold.grades import greatest_row, swing
from roundtold.questions import answer
from roundtold.rings import read
from roundtold.walkers import all_words, goes_on, is_walker, played, settled, wide_walked
from tests import oracle
from tests.helper import Case, words_to
from tests.samples import (
    BOTH, COUNTED, FIRST, GREATEST, LARGE, MADE, MUCH, ODD, ONE, OPEN, RANKS, SIDE, SOME, TOO_LARGE, TOO_MUCH, TWO,
)

HAS_TWO, RISING = MADE[1], MADE[-1]
RINGS = {1: words_to(1, 5, 1), 2: words_to(2, 6, 1), 3: words_to(3, 4, 1)}


def grade_of(question, ring):
    return len(oracle.longest_rows(question)[oracle.lot_of_ring(question, ring)][0])


def all_served(question, many, word):
    """Whether each LOT left by word alone is served."""
    longest = oracle.longest_rows(question)
    return all(len(longest[lot][0]) <= many for lot in oracle.lots_left(question, (word,)))


class Served(Case):
    def test_served(self):
        for question, many, want in (
            (GREATEST, 0, ()), (GREATEST, 1, (2,)), (GREATEST, 2, (1, 2)), (GREATEST, 3, (0, 1, 2)), (GREATEST, 10 ** 30, (0, 1, 2)),
            (ONE, 0, ()), (ONE, 1, (0,)), (HAS_TWO, 1, (3,)), (HAS_TWO, 2, (1, 2, 3)), (RANKS, 2, (1, 2)), (RISING, 2, (0, 2)),
            (BOTH, 1, (3,)), (LARGE, 3, (4, 8, 16)),
        ):
            self.gives(want, served, question, many)

    def test_serves(self):
        for question, many, ring, so in (
            (GREATEST, 1, (1, 1, 3), True), (GREATEST, 1, (2, 1), False), (GREATEST, 2, (2, 1), True), (GREATEST, 2, (1,), False),
            (GREATEST, 0, (3,), False), (GREATEST, 10 ** 30, (1,), True), (ONE, 0, (1,), False), (ONE, 1, (1,) * 60, True),
            (SIDE, 1, (2,), True), (SIDE, 1, (1, 2), False), (HAS_TWO, 1, (1,), False), (HAS_TWO, 2, (1,), True),
        ):
            self.gives(so, serves, question, many, ring)

    def test_as_grades_tell(self):
        for question in OPEN + MADE:
            longest = oracle.longest_rows(question)
            for many in range(5):
                want = tuple(lot for lot in oracle.firm(question) if len(longest[lot][0]) <= many)
                self.same(served(question, many), want)
                for ring in RINGS[len(question[0][0])][::4]:
                    self.same(serves(question, many, ring), grade_of(question, ring) <= many)
                # Under a served LOT all firm ones are.
                for lot, other in itertools.product(oracle.firm(question), repeat=2):
                    if lot in want and oracle.lot_under(question, other, lot):
                        self.assertIn(other, want)


class Unserved(Case):
    def test_is_unserved(self):
        for question, many, stretches, thing, so in (
            (GREATEST, 1, ((1, 2), (1,)), (2, 1), True), (GREATEST, 1, ((1, 2), (1,)), (1,), False),
            (GREATEST, 1, ((1, 2), (1,)), (3, 1, 2), False), (GREATEST, 1, ((1, 2), (1,)), [2, 1], False),
            (GREATEST, 0, ((1, 2), (1,)), (3, 1, 2), True), (GREATEST, 0, ((1, 2), (1,)), (1, 3, 2), False),
            (GREATEST, 2, ((1, 2), (1,)), (2, 1), False), (GREATEST, 2, ((),), (1,), True), (GREATEST, 2, ((1,) * 60,), (1,), True),
            (GREATEST, 3, ((),), (1,), False), (GREATEST, 0, ((),), (), False), (GREATEST, 0, ((),), (4,), False),
            (GREATEST, 0, ((),), (1, 0), False), (GREATEST, 0, ((),), (True,), False), (GREATEST, 0, ((),), None, False),
            (GREATEST, 0, ((),), 1, False), (GREATEST, 0, ((),), "1", False), (GREATEST, 0, ((),), ((1,),), False),
            (GREATEST, 0, ((),), (1, None), False), (GREATEST, 0, ((),), [], False), (GREATEST, 0, ((),), True, False),
            (SOME, 0, ((),), (3,), False), (SOME, 0, ((),), (1, 3), False), (SOME, 1, ((1, 1),), (1,), True),
            (SOME, 1, ((1, 1),), (1, 2), False), (SOME, 1, ((1, 1),), (1, 1) * 90, True),
        ):
            self.gives(so, is_unserved, question, many, stretches, thing)

    def test_nested_deep(self):
        thing = ()
        for _ in range(99):
            thing = (thing,)
        for own in (thing, (1, thing[0])):
            self.gives(False, is_unserved, SOME, 0, ((),), own)

    def test_as_it_is_said(self):
        for question in OPEN + MADE[:4]:
            for stretches, many in itertools.product((((),), ((1,),), ((1, 1), (len(question[0][0]),))), (0, 1, 2)):
                for ring in RINGS[len(question[0][0])][::5]:
                    so = oracle.may_be(stretches, ring) and grade_of(question, ring) > many
                    self.same(is_unserved(question, many, stretches, ring), so)

    def test_unserved(self):
        for question in OPEN + MADE:
            longest = oracle.longest_rows(question)
            wide = len(question[0][0])
            for stretches in (((),), ((1,),), ((wide, 1), (1, 1)), ((1, wide, wide), (), (1,))):
                for many in range(4):
                    wanted = [lot for lot in oracle.lots_left(question, stretches) if len(longest[lot][0]) > many]
                    if not wanted:
                        self.assertRaises(CanNot, unserved, question, many, stretches)
                        continue
                    ring = unserved(question, many, stretches)
                    self.assertTrue(ring != () and set(ring) <= set(range(1, wide + 1)))
                    self.assertTrue(oracle.may_be(stretches, ring))
                    self.assertLess(many, grade_of(question, ring))
                    self.same(is_unserved(question, many, stretches, ring), True)

    def test_unserved_again(self):
        ring = unserved(GREATEST, 1, ((1, 2), (1,)))
        self.assertIs(ring.__class__, tuple)
        self.gives(ring, unserved, GREATEST, 1, ((1, 2), (1,)))

    def test_all_are_served(self):
        for question, many, stretches in ((GREATEST, 2, ((1, 2),)), (GREATEST, 3, ((),)), (GREATEST, 1, ((1,), (3,))), (ONE, 1, ((),)),
                                          (SOME, 1, ((2,),)), (SOME, 10 ** 30, ((),))):
            self.refuses(CanNot(), unserved, question, many, stretches)


class Speaks(Case):
    def test_speaks_behind(self):
        for question, many, ring, room, want in (
            (GREATEST, 2, (1, 1, 2, 1, 1), 3, 5), (GREATEST, 3, (1, 1, 2, 1, 1), 3, 0), (GREATEST, 1, (1, 3), 0, 2),
            (GREATEST, 1, (1, 3), 1, 1), (ONE, 1, (1,), 0, 0), (SIDE, 1, (1, 2, 2), 2, 4), (SIDE, 2, (1, 2, 2), 2, 0),
            (SOME, 1, (1,) * 59 + (2,), 0, 60), (RANKS, 2, (1, 3), 0, 2), (RANKS, 1, (1, 3, 2), 0, 3), (GREATEST, 10 ** 30, (1,), 0, 0),
        ):
            self.gives(want, speaks_behind, question, many, ring, room)

    def test_never(self):
        for question, many, ring, room in ((GREATEST, 1, (1, 1, 2, 1, 1), 3), (GREATEST, 2, (1,), 0), (GREATEST, 0, (3,), 0),
                                           (ONE, 0, (1,), 0), (SOME, 1, (1,) * 60, 59), (SIDE, 1, (1, 2), 1)):
            self.refuses(CanNot(), speaks_behind, question, many, ring, room)

    def test_as_readings_tell(self):
        for question in OPEN + MADE:
            for ring in RINGS[len(question[0][0])][::7]:
                for many, room in itertools.product(range(4), range(len(ring))):
                    some = (steps for steps in range(16) if all_served(question, many, read(ring, room, steps)))
                    want = next(some, None)
                    if want is not None:
                        self.same(speaks_behind(question, many, ring, room), want)
                    else:
                        self.assertLess(many, grade_of(question, ring))
                        self.assertRaises(CanNot, speaks_behind, question, many, ring, room)


class Walker(Case):
    def test_walker_for(self):
        for question, many in itertools.product((ONE, SOME, GREATEST, HAS_TWO), (0, 1, 2, 10 ** 30)):
            walker = walker_for(question, many)
            self.gives(walker, walker_for, question, many)
            self.assertTrue(is_walker(walker))

    def test_goes_on_and_serves_what_it_can(self):
        for question in OPEN + MADE:
            for many in range(swing(question) + 2):
                walker = walker_for(question, many)
                self.assertTrue(is_walker(walker) and goes_on(walker))
                self.same(wide_walked(walker), len(question[0][0]))
                for ring in RINGS[len(question[0][0])][::3]:
                    for room in range(len(ring)):
                        if grade_of(question, ring) > many:
                            self.same(all_words(walker, ring, room), ())
                            continue
                        told = all_words(walker, ring, room)
                        self.assertTrue(1 <= len(told) <= many)
                        self.same(told[-1], answer(question, ring))
                        self.same(settled(walker, ring, room), answer(question, ring))
                        # It says nothing ahead of what must be read.
                        early = [said for _, _, said in played(walker, ring, room, speaks_behind(question, many, ring, room))]
                        self.assertTrue(all(said is None for said in early[:-1]))

    def test_no_walker_says_fewer_words_than_it_must(self):
        # On some RING it says as many words as the longest ROW has: each LOT of it is come to, one behind the other.
        for question in OPEN + MADE[:4]:
            many = swing(question)
            walker = walker_for(question, many)
            row = greatest_row(question)
            word = ()
            for lot in row:
                least = min((own for own, at in oracle.least_words(question).items() if own in oracle.lots(question)[lot]),
                            key=lambda own: (len(oracle.least_words(question)[own]), oracle.least_words(question)[own]))
                word = word + oracle.least_words(question)[least] * 3
            most = max(len(all_words(walker, ring, 0)) for ring in RINGS[len(question[0][0])] + [word])
            self.same(most, many)

    def test_greatest_question(self):
        walker = walker_for(LARGE, 4)
        self.assertTrue(is_walker(walker) and goes_on(walker))
        ring = (2,) + (1,) * 13 + (3, 2, 3, 3, 3, 3)
        self.same(all_words(walker, ring, 0), (0, 1, 2, 3))
        self.same(all_words(walker_for(LARGE, 2), ring, 0), (2, 3))
        self.same(all_words(walker_for(LARGE, 0), (3,), 0), ())


class Checks(Case):
    def calls(self):
        """Each function, and what else it takes, also a room that there is not."""
        return ((served, (1,)), (serves, (1, (1,))), (unserved, (0, ((),))), (unserved, (9, ((),))), (is_unserved, (0, ((),), (1,))),
                (is_unserved, (0, ((),), None)), (speaks_behind, (0, (1,), 0)), (speaks_behind, (9, (1,), 1)),
                (speaks_behind, (9, (1,), 0)), (walker_for, (2,)))

    def test_too_many_doings_first(self):
        for question in (TOO_MUCH, TOO_LARGE):
            for function, rest in self.calls():
                self.refuses(TooMuch(), function, question, *rest)

    def test_then_not_open(self):
        for question in (ODD, FIRST, TWO, COUNTED, MUCH):
            for function, rest in self.calls():
                self.refuses(Unfit(), function, question, *rest)

    def test_then_no_such_room(self):
        # Ahead of CanNot() for a RING that is not served.
        for ring, room in (((1, 2), 2), ((1, 2), -1), ((1,), 1), ((1, 1), 10 ** 30), ((2,) * 60, 60)):
            for many in (0, 1, 2):
                self.refuses(NoPlace(room), speaks_behind, SOME, many, ring, room)


if __name__ == "__main__":
    unittest.main()
