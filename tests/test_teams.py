"""Point 16: teams."""

import itertools
import unittest

from roundtold.errors import CanNot, NoPlace, TooMuch, Unfit
from roundtold.grades import swing
from roundtold.rings import read
from roundtold.sure import is_sure_ring, sure_behind
from roundtold.teams import (
    alone_later, best_rooms, is_team_doubt, team_doubt, team_left, team_read, team_sure, team_to_come,
)
from tests import oracle
from tests.helper import Case, words_to
from tests.samples import (
    BESIDE, BOTH, COUNTED, EITHER, FIRST, GREATEST, LARGE, MADE, MIXED, MUCH, ODD, ONE, OPEN, RANKS, SIDE, SOME, TOO_LARGE, TOO_MUCH, TWO,
)

HERE = (1, 2, 1, 3)
RINGS = {1: words_to(1, 3, 1), 2: words_to(2, 5, 1), 3: words_to(3, 4, 1)}
QUESTIONS = OPEN + MADE


def width(question):
    return len(question[0][0])


def some_rings(question):
    return RINGS[width(question)][::5]


def some_teams(ring):
    last = len(ring) - 1
    return {(0,), (last,), (0, last), (last, 0, last // 2), (0, 0, last, 0)}


def stretches_of(ring, rooms, steps):
    return tuple(tuple(ring[(room + step) % len(ring)] for step in range(steps)) for room in rooms)


def answers_of(question, stretches):
    return {oracle.answer_of_lot(question, lot) for lot in oracle.lots_left(question, stretches)}


def sure_steps(question, ring, rooms):
    """The least number of steps behind which the team is sure; None if it is not within 25."""
    return next((steps for steps in range(26) if len(answers_of(question, stretches_of(ring, rooms, steps))) == 1), None)


class Read(Case):
    def test_team_read(self):
        for ring, rooms, steps, want in (
            (HERE, (1, 3), 2, ((2, 1), (3, 1))), (HERE, (3, 1), 2, ((3, 1), (2, 1))), (HERE, (0,), 0, ((),)), (HERE, (2, 2, 0, 2), 0, ((),) * 4),
            (HERE, (0, 0), 5, ((1, 2, 1, 3, 1),) * 2), ((1,), (0,), 60, ((1,) * 60,)), ((2, 1) * 30, (59,), 3, ((1, 2, 1),)),
        ):
            self.gives(want, team_read, ring, rooms, steps)

    def test_left_and_to_come(self):
        for question, ring, rooms, steps, left, to_come in (
            (BOTH, HERE, (1, 3), 1, (3,), 1), (BOTH, HERE, (1,), 1, (1, 3), 2), (BOTH, HERE, (1, 3), 0, (0, 1, 2, 3), 2),
            (GREATEST, (1, 2), (0,), 1, (0, 1, 2), 3), (GREATEST, (1, 2), (0, 1), 1, (1, 2), 2), (GREATEST, (3,), (0,), 60, (2,), 1),
            (ONE, (1,), (0, 0, 0, 0), 2, (0,), 1), (SIDE, (1, 2, 2), (1,), 2, (1,), 1),
        ):
            self.gives(left, team_left, question, ring, rooms, steps)
            self.gives(to_come, team_to_come, question, ring, rooms, steps)

    def test_as_stretches_tell(self):
        for question in QUESTIONS:
            for ring in some_rings(question):
                for rooms, steps in itertools.product(some_teams(ring), (0, 1, 3)):
                    stretches = stretches_of(ring, rooms, steps)
                    self.same(team_read(ring, rooms, steps), stretches)
                    self.same(team_left(question, ring, rooms, steps), tuple(oracle.lots_left(question, stretches)))
                    self.same(team_to_come(question, ring, rooms, steps), oracle.to_come(question, stretches, None))


class Sure(Case):
    def test_team_sure(self):
        for question, ring, rooms, want, later in (
            (BOTH, HERE, (1, 3), 1, (2, 2)), (BOTH, HERE, (0,), 4, (0,)), (BOTH, HERE, (0, 0, 2), 2, (2, 2, 2)), (BOTH, HERE, (3, 1), 1, (2, 2)),
            (ONE, (1,), (0, 0), 0, (0, 0)), (SOME, (1,) * 59 + (2,), (0, 30), 30, (30, 0)), (SIDE, (1, 2, 2), (0, 1, 2), 2, (1, 0, 2)),
            (GREATEST, (3, 2), (0, 1), 1, (0, 1)),
        ):
            self.gives(want, team_sure, question, ring, rooms)
            self.gives(later, alone_later, question, ring, rooms)

    def test_never(self):
        for question, ring, rooms in ((BOTH, (1, 2), (0, 1)), (SOME, (1,), (0,)), (GREATEST, (2, 1), (0, 0, 1, 0)), (SIDE, (1, 2), (1,)),
                                      (SOME, (1,) * 60, (59,))):
            self.refuses(CanNot(), team_sure, question, ring, rooms)
            self.refuses(CanNot(), alone_later, question, ring, rooms)
            self.refuses(CanNot(), best_rooms, question, ring, 1)

    def test_as_readings_tell(self):
        for question in QUESTIONS:
            for ring in some_rings(question):
                for rooms in some_teams(ring):
                    want = sure_steps(question, ring, rooms)
                    # At last exactly if the RING is sure.
                    self.same(want is not None, is_sure_ring(question, ring))
                    if want is None:
                        self.assertRaises(CanNot, team_sure, question, ring, rooms)
                        self.assertRaises(CanNot, alone_later, question, ring, rooms)
                        continue
                    self.same(team_sure(question, ring, rooms), want)
                    alone = [sure_steps(question, ring, (room,)) for room in rooms]
                    self.same(alone_later(question, ring, rooms), tuple(steps - want for steps in alone))
                    self.same(alone, [sure_behind(question, ring, room) for room in rooms])
                    self.assertLessEqual(want, min(alone))

    def test_no_words_are_saved(self):
        # All may stand where the same is read: nothing but that is known, as of one walker.
        for question in QUESTIONS:
            for many in (1, 4):
                self.same(team_to_come(question, (1,), (0,) * many, 0), swing(question))


class Best(Case):
    def test_best_rooms(self):
        for question, ring, many, want in (
            (BOTH, HERE, 1, (1,)), (BOTH, HERE, 2, (1, 3)), (BOTH, HERE, 3, (0, 1, 3)), (BOTH, HERE, 4, (0, 1, 2, 3)), (BOTH, (3, 2), 1, (0,)),
            (ONE, (1, 1, 1), 2, (0, 1)), (SOME, (1, 1, 1, 1, 1, 1, 1, 2), 1, (7,)), (SOME, (1, 1, 1, 1, 2, 1, 1, 1), 2, (0, 4)),
            (SIDE, (2, 1, 1, 2), 1, (3,)), (SIDE, (2, 1, 1, 2), 2, (0, 3)),
        ):
            self.gives(want, best_rooms, question, ring, many)

    def test_as_all_teams_tell(self):
        for question in QUESTIONS:
            for ring in [own for own in some_rings(question) if is_sure_ring(question, own)] + [(1,) * 3 + (width(question),) * 3]:
                if not is_sure_ring(question, ring):
                    continue
                for many in range(1, min(len(ring), 4) + 1):
                    teams = list(itertools.combinations(range(len(ring)), many))
                    want = min(teams, key=lambda own: (sure_steps(question, ring, own), own))
                    self.same(best_rooms(question, ring, many), want)

    def test_not_so_many_rooms(self):
        # Ahead of CanNot() for a RING that is never sure.
        for ring, many in (((1, 2), 3), ((2, 3), 3), ((1,), 2), ((1, 2, 3), 4), ((1, 1), 4)):
            self.refuses(Unfit(), best_rooms, BOTH, ring, many)


class Doubt(Case):
    def test_is_team_doubt(self):
        for rooms, steps, thing, so in (
            ((1,), 1, ((2,), (2, 3)), True), ((1,), 1, ((2, 3), (2,)), True), ((1,), 1, ((2,), (1, 2)), False), ((1,), 1, ((1,), (2, 3)), False),
            ((1,), 1, ((2, 3), (1,)), False), ((1,), 1, ((2,), [2, 3]), False), ((1,), 1, [(2,), (2, 3)], False), ((1,), 1, ((2,),), False),
            ((1,), 1, ((2,), (2, 3), (2,)), False), ((1,), 1, (), False), ((1,), 1, None, False), ((1,), 1, ((2,), (2, 4)), False),
            ((1,), 1, ((2,), ()), False), ((1,), 1, ((2,), (2, 3, True)), False), ((1,), 1, (2, 3), False), ((1,), 1, "23", False),
            ((1,), 1, True, False), ((1, 3), 1, ((2,), (2, 3)), False), ((0, 0), 2, ((1, 2), (1, 2, 3)), True),
            ((0, 2), 1, ((1,), (3, 1, 2)), True), ((0,), 0, ((1,), (3, 2)), True), ((0,), 3, ((1, 2) * 200, (1, 2, 1, 3) * 99), True),
        ):
            self.gives(so, is_team_doubt, BOTH, HERE, rooms, steps, thing)

    def test_team_doubt(self):
        for question in QUESTIONS:
            wide = width(question)
            for ring in some_rings(question):
                for rooms, steps in itertools.product(some_teams(ring), (0, 1, 2, 9)):
                    stretches = stretches_of(ring, rooms, steps)
                    if len(answers_of(question, stretches)) == 1:
                        self.assertRaises(CanNot, team_doubt, question, ring, rooms, steps)
                        continue
                    pair = team_doubt(question, ring, rooms, steps)
                    self.assertTrue(len(pair) == 2 and all(set(own) <= set(range(1, wide + 1)) for own in pair))
                    self.assertTrue(all(oracle.may_be(stretches, own) for own in pair))
                    self.assertNotEqual(oracle.answer(question, pair[0]), oracle.answer(question, pair[1]))
                    self.same(is_team_doubt(question, ring, rooms, steps, pair), True)

    def test_as_it_is_said(self):
        for question in (BOTH, SIDE, RANKS):
            for ring, rooms, steps in (((1, 2, 1), (0, 2), 2), ((2, 1, 1, 1), (1,), 3), ((1,), (0,), 0)):
                stretches = stretches_of(ring, rooms, steps)
                for one, other in itertools.product(RINGS[width(question)][::4], repeat=2):
                    so = all(oracle.may_be(stretches, own) for own in (one, other))
                    so = so and oracle.answer(question, one) != oracle.answer(question, other)
                    self.same(is_team_doubt(question, ring, rooms, steps, (one, other)), so)

    def test_team_doubt_again(self):
        for question, ring, rooms, steps in ((BOTH, HERE, (0, 2), 1), (LARGE, (1, 2) * 30, (0, 5, 59), 60), (SOME, (1,), (0,) * 4, 60)):
            pair = team_doubt(question, ring, rooms, steps)
            self.assertTrue(isinstance(pair, tuple) and all(isinstance(own, tuple) for own in pair))
            self.gives(pair, team_doubt, question, ring, rooms, steps)
            self.gives(True, is_team_doubt, question, ring, rooms, steps, pair)

    def test_there_is_none(self):
        for question, ring, rooms, steps in ((BOTH, HERE, (1, 3), 1), (ONE, (1,), (0,), 0), (SOME, (2, 1), (1,), 2), (EITHER, (3,), (0, 0), 60)):
            self.refuses(CanNot(), team_doubt, question, ring, rooms, steps)
            for thing in (((1,), (2,)), ((2,), (2, 3)), None):
                self.gives(False, is_team_doubt, question, ring, rooms, steps, thing)


class Checks(Case):
    def calls(self, rooms):
        """Each function with a QUESTION and rooms of a RING (1, 2)."""
        ring = (1, 2)
        return ((team_left, (ring, rooms, 1)), (team_to_come, (ring, rooms, 0)), (team_sure, (ring, rooms)), (alone_later, (ring, rooms)),
                (team_doubt, (ring, rooms, 9)), (is_team_doubt, (ring, rooms, 1, None)), (is_team_doubt, (ring, rooms, 1, ((1,), (1, 2)))))

    def test_errors_of_the_question_first(self):
        for question, error in ((TOO_MUCH, TooMuch()), (TOO_LARGE, TooMuch()), (ODD, Unfit()), (FIRST, Unfit()), (MUCH, Unfit())):
            for function, rest in self.calls((0, 1)) + self.calls((5,)):
                self.refuses(error, function, question, *rest)
            self.refuses(error, best_rooms, question, (1, 2), 1)
            self.refuses(error, best_rooms, question, (1, 2), 4)
        for question in (TWO, COUNTED):
            self.refuses(Unfit(), best_rooms, question, (1,), 2)
            self.refuses(Unfit(), team_left, question, (1,), (1,), 0)

    def test_then_the_first_room_that_is_none(self):
        for rooms, place in (((2,), 2), ((0, 2, 3), 2), ((0, 3, 2), 3), ((-1, 2), -1), ((1, 1, 1, 10 ** 30), 10 ** 30), ((0, -2), -2)):
            # Of a RING that is sure, and of one that is not: ahead of CanNot().
            for question in (SOME, SIDE, MIXED, BESIDE):
                for function, rest in self.calls(rooms):
                    self.refuses(NoPlace(place), function, question, *rest)
            self.refuses(NoPlace(place), team_read, (1, 2), rooms, 0)
            self.refuses(NoPlace(place), team_read, (1, 2), rooms, 3)


if __name__ == "__main__":
    unittest.main()
