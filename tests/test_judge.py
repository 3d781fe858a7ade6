"""Point 20: one judge."""

import itertools
import unittest
from unittest import mock

from roundtold import judged
from roundtold.answerable import is_flaw
from roundtold.errors import TooMuch, Unfit
from roundtold.few import walker_for
from roundtold.grades import is_row, swing
from roundtold.judge import (
    comes_of, first_false, is_claim, is_paper_against, is_paper_for, is_so, paper, verdicts,
)
from roundtold.judged import is_pump, is_wrong, most_words
from roundtold.questions import least_question
from roundtold.walkers import mirrored_walker
from tests import oracle
from tests.helper import Case, listed, words_to
from tests.samples import (
    BESIDE, BOTH, COUNTED, EITHER, FIRST, GREATEST, LARGE, LATE, LOST, MADE, MIXED, MUCH, ODD, ONE, OPEN, RANKS, SIDE, SOME,
    TOO_LARGE, TOO_MUCH, TWO,
)

PLAIN = ((((0, 1), (1, 1)), ((1, 1), (1, 1))), (0, 1))
FLIP = ((((0, 1), (1, 1)), ((0, 1), (1, 1))), (0, 1))
STANDS = ((((0, 0), (1, 0)), ((1, 0), (1, 0))), (0, 1))
SILENT = ((((0, 1), (0, 1)),), (None,))
# SOME with a STATE more.
TWICE = (((1, 2), (0, 2), (2, 2)), (0, 0, 1))
# Its WORDS put eight STATES in all orders.
SHUFFLER = (tuple((((own + 1) % 8, 1), ({0: 1, 1: 0}.get(own, own), 1)) for own in range(8)), (0, None, 1) + (None,) * 5)
DEEP = ()
for _ in range(97):
    DEEP = (DEEP,)

THINGS = (
    (), [], None, 0, 1, 2, 3, True, False, "", "for", (0,), (1,), (0, 1), (0, 1, 2), (1, 2), (2, 2), [1], (1, 1, 2), ("power", (2,), 2),
    ("turn", (1,), (2,)), ((1,), 0), ((1, 2), 0), ((1, 2), 1), ((1, 2), (1, 2)), ((2,), (1, 2)), ((), (2, 1)), (3,), (3, 2), (1, 0), DEEP,
)
# CLAIMS, and whether they are so.
CLAIMS = (
    (("open", SOME), True), (("open", ODD), False), (("open", FIRST), False), (("open", COUNTED), False), (("open", LARGE), True),
    (("alike", SOME, ODD), False), (("alike", LATE, SOME), True), (("alike", TWICE, SOME), True), (("alike", SOME, SOME), True),
    (("alike", ODD, FIRST), False), (("alike", TOO_MUCH, TOO_MUCH), True), (("alike", TOO_MUCH, SOME), False),
    (("left", SOME, ((1,),), 0), True), (("left", SOME, ((2,),), 0), False), (("left", SOME, ((1,),), 2), False), (("left", SOME, ((1,),), 10 ** 30), False),
    (("left", MADE[1], ((),), 0), False), (("left", SIDE, ((2, 1), (1, 1, 2)), 0), True), (("left", GREATEST, ((2,), (1, 1)), 2), True),
    (("come", SOME, ((1,),), None, 2), True), (("come", SOME, ((1,),), 0, 2), False), (("come", SOME, ((1,),), 0, 1), True),
    (("come", SOME, ((2,),), 1, 0), True), (("come", SOME, ((2,),), 1, 1), False), (("come", GREATEST, ((),), None, 3), True),
    (("come", GREATEST, ((),), None, 4), False), (("come", GREATEST, ((1, 1), ()), 0, 2), True), (("come", GREATEST, ((3,),), None, 0), True),
    (("come", GREATEST, ((1,),), 10 ** 30, 3), True), (("come", GREATEST, ((1,),), 1, 10 ** 30), False), (("come", GREATEST, ((1,),), 0, 0), True),
    (("served", SOME, ((2,),), 1), True), (("served", SOME, ((1,),), 1), False), (("served", SOME, ((1,),), 2), True),
    (("served", GREATEST, ((1, 2), (1,)), 1), False), (("served", GREATEST, ((1, 2), (3,)), 1), True), (("served", ONE, ((),), 0), False),
    (("served", RANKS, ((),), 10 ** 30), True), (("right", SOME, PLAIN), True), (("right", SOME, FLIP), False), (("right", SOME, SILENT), False),
    (("right", GREATEST, walker_for(GREATEST, 3)), True), (("right", GREATEST, walker_for(GREATEST, 2)), False), (("right", TWICE, PLAIN), True),
    (("most", PLAIN, 2), True), (("most", PLAIN, 1), False), (("most", PLAIN, 3), False), (("most", FLIP, 2), False), (("most", SILENT, 0), True),
    (("most", SILENT, 1), False), (("most", SHUFFLER, 0), False), (("most", walker_for(GREATEST, 3), 3), True),
)
SO = [claim for claim, so in CLAIMS if so]
NOT_SO = [claim for claim, so in CLAIMS if not so]


def width(question):
    return len(question[0][0])


def is_some_paper(claim, so, thing):
    """Whether thing is a PAPER of the side that is so, as the table tells."""
    kind = claim[0]
    if not isinstance(thing, tuple) and kind != "most":
        return False
    if kind in ("left", "come") and not so or kind not in ("left", "come") and so:
        return thing == ()
    if kind == "open":
        return is_flaw(claim[1], thing)
    if kind in ("alike", "left", "served"):
        wide = width(claim[1])
        if thing == () or any(isinstance(own, bool) or own not in range(1, wide + 1) for own in thing):
            return False
        if kind == "alike":
            return oracle.answer(claim[1], thing) != oracle.answer(claim[2], thing)
        if not oracle.may_be(claim[2], thing):
            return False
        if kind == "left":
            return oracle.lot_of_ring(claim[1], thing) == claim[3]
        return len(oracle.longest_rows(claim[1])[oracle.lot_of_ring(claim[1], thing)][0]) > claim[3]
    if kind == "come":
        if thing == ():
            return claim[4] == 0
        return (is_row(claim[1], thing) and len(thing) >= claim[4] and thing[0] in oracle.lots_left(claim[1], claim[2])
                and oracle.answer_of_lot(claim[1], thing[0]) != claim[3])
    if kind == "right":
        return is_wrong(claim[1], claim[2], thing)
    most = most_words(claim[1])
    return is_pump(claim[1], thing) if most is None else not isinstance(thing, bool) and thing == most


class IsClaim(Case):
    def test_claims(self):
        for claim, _ in CLAIMS:
            self.gives(True, is_claim, claim)
            self.gives(False, is_claim, listed(claim))
            self.gives(False, is_claim, list(claim))
            self.gives(False, is_claim, claim[:-1])
            self.gives(False, is_claim, claim + (0,))
            self.gives(False, is_claim, claim[1:])
            self.gives(False, is_claim, ("other",) + claim[1:])
            self.gives(False, is_claim, (claim[0], listed(claim[1])) + claim[2:])
        for claim in (("open", TOO_MUCH), ("left", TOO_MUCH, ((),), 0), ("come", ODD, ((),), None, 0), ("served", MUCH, ((3,),), 1), ("right", ODD, PLAIN),
                      ("alike", TOO_MUCH, TOO_MUCH), ("left", SOME, ((1,) * 99,) * 9, 10 ** 30), ("most", SHUFFLER, 9)):
            self.gives(True, is_claim, claim)

    def test_none(self):
        for thing in (
            (), [], None, True, 1, "open", ("open",), ("open", SOME, SOME), ("open", PLAIN), ("Open", SOME), (True, SOME), (None, SOME), ((), SOME),
            (["open"], SOME), ("open", (((0, 2), (1, 1)), (0, 1))), ("alike", SOME), ("alike", SOME, GREATEST), ("alike", SOME, ONE), ("alike", SOME, None),
            ("alike", SOME, SOME, SOME), ("left", SOME, (), 0), ("left", SOME, ((3,),), 0), ("left", SOME, ((1,),), -1), ("left", SOME, ((1,),), True),
            ("left", SOME, ((1,),), None), ("left", SOME, (1,), 0), ("left", SOME, [(1,)], 0), ("left", SOME, ([1],), 0), ("left", PLAIN, ((1,),), 0),
            ("left", SOME, ((0,),), 0), ("left", SOME, ((1,),)), ("left", SOME, None, 0), ("left", SOME, "1", 0), ("come", SOME, ((1,),), -1, 0),
            ("come", SOME, ((1,),), True, 0), ("come", SOME, ((1,),), None, None), ("come", SOME, ((1,),), None, -1), ("come", SOME, ((1,),), None, False),
            ("come", SOME, ((1,),), None), ("come", SOME, ((1,),), "0", 0), ("come", SOME, ((1, True),), 0, 0), ("served", SOME, ((1,),), -1),
            ("served", SOME, ((1,),), None), ("served", SOME, ((1,),), True), ("served", SOME, 1, ((1,),)), ("served", SOME, (), 1),
            ("served", GREATEST, ((4,),), 1), ("right", SOME, STANDS), ("right", SOME, mirrored_walker(PLAIN)), ("right", GREATEST, PLAIN),
            ("right", ONE, PLAIN), ("right", SOME, SOME), ("right", SOME), ("right", SOME, None), ("right", None, PLAIN), ("most", STANDS, 1),
            ("most", PLAIN, -1), ("most", PLAIN, None), ("most", PLAIN, True), ("most", SOME, 1), ("most", PLAIN), ("most", None, 1), ("most", PLAIN, 1, 1),
            ("open", DEEP), DEEP, (DEEP, SOME), ("left", SOME, DEEP, 0), ("most", DEEP, 1), ("right", SOME, DEEP), ("wide", SOME), (0, SOME),
            "open question",
        ):
            self.gives(False, is_claim, thing)
            # With tuples for its lists it may be one.
            if "[" not in repr(thing):
                self.refuses(Unfit(), is_so, thing)

    def test_none_is_unfit(self):
        for own in (("open",), ("alike", SOME, ONE), ("most", STANDS, 1), ("left", SOME, (), 0), 7, None, "x", ()):
            for call in (lambda: is_so(own), lambda: paper(own), lambda: is_paper_for(own, ()), lambda: is_paper_against(own, None),
                         lambda: verdicts((own,), ((),)), lambda: verdicts((("open", TOO_MUCH), own), ((), ())), lambda: comes_of(own, ()),
                         lambda: comes_of(("open", SOME), (("open", SOME), own)), lambda: comes_of(own, (own,)), lambda: first_false((own,)),
                         lambda: first_false((("open", TOO_MUCH), ("open", ODD), own)), lambda: verdicts((own,), ())):
                with self.assertRaises(Unfit) as caught:
                    call()
                self.same_error(caught.exception, Unfit())


class So(Case):
    def test_is_so(self):
        for claim, so in CLAIMS:
            self.gives(so, is_so, claim)

    def test_papers(self):
        for claim, so in CLAIMS:
            own = paper(claim)
            self.gives(own, paper, claim)
            self.gives(so, is_paper_for, claim, own)
            self.gives(not so, is_paper_against, claim, own)
            self.same(verdicts((claim,), (own,)), ["for" if so else "against"])
            self.assertTrue(is_some_paper(claim, so, own))

    def test_things(self):
        for claim, so in CLAIMS:
            if claim[0] in ("left", "come", "served") and claim[1] is LARGE:
                continue
            for thing in THINGS:
                own = is_some_paper(claim, so, thing)
                self.same(is_paper_for(claim, thing), so and own)
                self.same(is_paper_against(claim, thing), not so and own)
                self.same(verdicts([claim], [thing]), ["none" if not own else "for" if so else "against"])

    def test_some_things(self):
        for claim, thing, want in (
            (("open", SOME), (), "for"), (("open", SOME), [], "none"), (("open", ODD), ("power", (2,), 2), "against"), (("open", ODD), (), "none"),
            (("open", ODD), ("power", (2,), True), "none"), (("alike", SOME, ODD), (2, 2), "against"), (("alike", SOME, ODD), (1, 2, 2), "against"),
            (("alike", SOME, ODD), (2,), "none"), (("alike", SOME, ODD), [2, 2], "none"), (("alike", SOME, ODD), (), "none"), (("alike", LATE, SOME), (), "for"),
            (("left", SOME, ((1,),), 0), (1, 1), "for"), (("left", SOME, ((1,),), 0), (1, 2), "none"), (("left", SOME, ((1,),), 0), (), "none"),
            (("left", SOME, ((2,),), 0), (), "against"), (("left", SOME, ((2,),), 0), (2,), "none"), (("left", SOME, ((1,),), 7), (), "against"),
            (("come", SOME, ((1,),), None, 2), (0, 1), "for"), (("come", SOME, ((1,),), None, 2), (1,), "none"), (("come", SOME, ((1,),), None, 1), (1,), "for"),
            (("come", SOME, ((1,),), None, 1), (0, 1), "for"), (("come", SOME, ((1,),), 1, 1), (0,), "for"), (("come", SOME, ((1,),), 0, 1), (0, 1), "none"),
            (("come", SOME, ((1,),), 0, 2), (), "against"), (("come", SOME, ((1,),), None, 0), (), "for"), (("come", SOME, ((1,),), None, 0), (1,), "for"),
            (("come", SOME, ((1,),), None, 1), (), "none"), (("come", SOME, ((2,),), 1, 0), (), "for"), (("come", SOME, ((2,),), 1, 0), (1,), "none"),
            (("served", SOME, ((2,),), 1), (), "for"), (("served", SOME, ((1,),), 1), (1,), "against"), (("served", SOME, ((1,),), 1), (1, 2), "none"),
            (("served", SOME, ((1,),), 1), (), "none"), (("right", SOME, PLAIN), (), "for"), (("right", SOME, FLIP), ((1, 2), 1), "against"),
            (("right", SOME, FLIP), ((1,), 0), "none"), (("right", SOME, FLIP), (), "none"), (("most", PLAIN, 2), (), "for"), (("most", PLAIN, 2), 2, "none"),
            (("most", PLAIN, 1), 2, "against"), (("most", PLAIN, 1), 1, "none"), (("most", PLAIN, 1), (), "none"), (("most", SILENT, 1), 0, "against"),
            (("most", SILENT, 1), False, "none"), (("most", walker_for(SOME, 1), 0), True, "none"), (("most", walker_for(SOME, 1), 0), 1, "against"),
            (("most", FLIP, 2), ((1, 2), (1, 2)), "against"), (("most", FLIP, 2), ((), (1, 2)), "none"), (("most", FLIP, 2), None, "none"),
            (("most", FLIP, 2), 3, "none"),
        ):
            self.gives(want == "for", is_paper_for, claim, thing)
            self.gives(want == "against", is_paper_against, claim, thing)
            for change in (lambda own: own, listed):
                self.same(verdicts(change((claim,)), [thing]), [want])
                self.same(verdicts(claims=change((claim, claim)), things=(thing, thing)), [want, want])

    def test_a_list_within_is_a_list(self):
        self.same(verdicts([["alike", *listed((SOME, ODD))]], [(2, 2)]), ["against"])
        self.same(verdicts((("alike", SOME, ODD),), ([2, 2],)), ["none"])
        self.same(verdicts((), ()), [])
        self.same(verdicts([], ()), [])

    def test_as_claims_of_rings_tell(self):
        for question in OPEN + MADE[:2]:
            rings = words_to(width(question), 4, 1)
            longest = oracle.longest_rows(question)
            for stretches in (((),), ((1,), (width(question),)), ((1, 1),)):
                left = oracle.lots_left(question, stretches)
                for lot in range(len(oracle.lots(question)) + 1):
                    self.same(is_so(("left", question, stretches, lot)), lot in left)
                for many in range(4):
                    for said in (None, 0, 1):
                        self.same(is_so(("come", question, stretches, said, many)), oracle.to_come(question, stretches, said) >= many)
                    self.same(is_so(("served", question, stretches, many)), all(len(longest[lot][0]) <= many for lot in left))
                for ring in rings[::6]:
                    lot = oracle.lot_of_ring(question, ring)
                    self.same(is_paper_for(("left", question, stretches, lot), ring), oracle.may_be(stretches, ring))
            for many in range(swing(question) + 1):
                self.same(is_so(("right", question, walker_for(question, many))), many == swing(question))
                self.same(is_so(("most", walker_for(question, many), many)), many in [most_words(walker_for(question, many))])


class FirstFalse(Case):
    def test_first_false(self):
        for claims, want in (
            ((), None), ((("open", SOME),), None), ((("open", ODD),), 0), ((("open", SOME), ("most", PLAIN, 1), ("open", ODD)), 1), (tuple(SO), None),
            (tuple(SO) + (NOT_SO[3],), len(SO)), ((SO[1], NOT_SO[0], NOT_SO[1]), 1),
            # What is behind the first one is not asked for.
            ((("open", ODD), ("open", TOO_MUCH)), 0), ((("open", SOME), ("alike", SOME, ODD), ("left", ODD, ((),), 0)), 1),
        ):
            self.gives(want, first_false, claims)

    def test_errors_ahead_of_it(self):
        self.refuses(TooMuch(), first_false, (("open", SOME), ("open", TOO_MUCH), ("open", ODD)))
        self.refuses(Unfit(), first_false, (("served", ODD, ((),), 1), ("open", TOO_MUCH)))


class ComesOf(Case):
    def test_comes_of(self):
        one, two, three = ("come", SOME, ((1,), (2,)), None, 2), ("served", GREATEST, ((1,), (2,)), 1), ("left", SOME, ((1,), (1, 2), ()), 0)
        for claim, claims, so in (
            (("come", SOME, ((1,),), None, 1), (one,), True), (("served", SOME, ((1,),), 2), (("served", SOME, ((1,), (2,)), 1),), False),
            (one, (), False), (one, (one,), True), (one, (two, one), True), (("come", SOME, ((2,), (1,)), None, 2), (one,), True),
            (("come", SOME, ((2,), (2,)), None, 2), (one,), True), (("come", SOME, ((2,), ()), None, 2), (one,), False),
            (("come", SOME, ((1,),), None, 3), (one,), False), (("come", SOME, ((1,),), 0, 1), (one,), False), (("come", SOME, ((1,),), None, 0), (one,), True),
            (("come", TWICE, ((1,),), None, 1), (one,), False), (("come", TWICE, ((1,),), None, 1), (one, ("alike", SOME, TWICE)), False),
            (("served", GREATEST, ((2,), (1,)), 1), (two,), True), (("served", GREATEST, ((2,), (1,), (3, 3)), 4), (two,), True),
            (("served", GREATEST, ((2,),), 1), (two,), False), (("served", GREATEST, ((1,), (2,)), 0), (two,), False),
            (("served", GREATEST, ((1,), (1,), (2,)), 1), (two,), True), (("left", SOME, ((1, 2),), 0), (three,), True),
            (("left", SOME, ((), (1,)), 0), (three,), True), (("left", SOME, ((), (1,)), 1), (three,), False), (("left", SOME, ((2,),), 0), (three,), False),
            (("left", SOME, ((1,),), 0), (("come", SOME, ((1,),), 0, 0), ("served", SOME, ((1,),), 0)), False),
            (("alike", SOME, TWICE), (("alike", TWICE, SOME),), True), (("alike", SOME, LOST), (("alike", SOME, TWICE), ("alike", TWICE, LOST)), True),
            (("alike", LOST, SOME), (("alike", SOME, TWICE), ("alike", TWICE, LOST)), True), (("alike", SOME, LOST), (("alike", SOME, TWICE),), False),
            (("alike", SOME, SOME), (("alike", SOME, TWICE),), True), (("alike", SOME, SOME), (), False), (("alike", SOME, SOME), (("open", SOME),), False),
            (("alike", TWICE, TWICE), (("alike", SOME, TWICE),), True), (("alike", LOST, LOST), (("alike", SOME, TWICE),), False),
            (("alike", SOME, ODD), (("alike", TWICE, ODD), ("alike", LATE, SOME), ("alike", LATE, TWICE)), True),
            (("open", TWICE), (("open", SOME), ("alike", TWICE, SOME)), True), (("open", TWICE), (("open", SOME),), False),
            (("open", ODD), (("open", SOME), ("alike", TWICE, SOME), ("alike", TWICE, ODD)), True), (("open", SOME), (("alike", SOME, TWICE),), False),
            (("right", TWICE, PLAIN), (("right", SOME, PLAIN), ("alike", SOME, TWICE)), True),
            (("right", TWICE, FLIP), (("right", SOME, PLAIN), ("alike", SOME, TWICE)), False),
            (("right", TWICE, PLAIN), (("right", SOME, PLAIN), ("alike", SOME, LOST)), False),
            (("right", LOST, PLAIN), (("alike", LOST, TWICE), ("right", SOME, PLAIN), ("alike", SOME, TWICE)), True),
            (("most", PLAIN, 2), (("most", PLAIN, 2),), True), (("most", PLAIN, 2), (("most", PLAIN, 3), ("most", PLAIN, 1)), False),
            (("served", SOME, ((1,),), 1), (("alike", SOME, TWICE), ("served", TWICE, ((1,),), 1)), False),
            (("left", SOME, ((1,),), 0), (("alike", SOME, TWICE), ("left", TWICE, ((1,),), 0)), False),
            # What is so or not, or too much, is not asked for.
            (("open", TOO_MUCH), (("open", TOO_MUCH),), True), (("served", ODD, ((1,),), 2), (("served", ODD, ((1,),), 1),), True),
        ):
            self.gives(so, comes_of, claim, claims)

    def all_that_come(self, claims, universe):
        """All of the universe that come of these, rule by rule, until there are no more."""
        found = set(claims)
        while True:
            more = {own for own in universe if own not in found and self.comes_at_once(own, found)}
            if not more:
                return found
            found |= more

    def comes_at_once(self, own, found):
        kind, question = own[0], own[1]
        if kind == "alike":
            return ("alike", own[2], own[1]) in found or any(
                other[0] == "alike" and other[1] == own[1] and ("alike", other[2], own[2]) in found for other in found)
        for other in found:
            if kind in ("open", "right") and other[0] == "alike" and other[2] == question and (kind, other[1]) + own[2:] in found:
                return True
            if kind in ("open", "right") and other[0] == "alike" and other[1] == question and (kind, other[2]) + own[2:] in found:
                return True
            if other[:2] != own[:2] or kind not in ("left", "come", "served"):
                continue
            less, more = set(own[2]), set(other[2])
            if kind == "left" and other[3] == own[3] and less <= more:
                return True
            if kind == "come" and other[3] == own[3] and less <= more and own[4] <= other[4]:
                return True
            if kind == "served" and more <= less and own[3] >= other[3]:
                return True
        return False

    def test_as_the_rules_tell(self):
        questions = (SOME, TWICE, LATE, ODD)
        stretches = (((1,),), ((1,), (2,)), ((2,),), ((2,), (1,), ()))
        universe = [("open", own) for own in questions] + [("alike", *own) for own in itertools.product(questions, repeat=2)]
        universe += [("right", own, walker) for own in questions for walker in (PLAIN, FLIP)] + [("most", PLAIN, 1), ("most", PLAIN, 2)]
        universe += [("left", own, read, lot) for own in questions[:2] for read in stretches for lot in (0, 1)]
        universe += [("come", own, read, said, many) for own in questions[:2] for read in stretches for said in (None, 0) for many in (0, 2)]
        universe += [("served", own, read, many) for own in questions[:2] for read in stretches for many in (0, 1)]
        for start in range(0, 60):
            claims = tuple(universe[(start * 7 + step * step * 5) % len(universe)] for step in range(start % 6))
            found = self.all_that_come(claims, universe)
            for own in universe:
                self.same(comes_of(own, claims), own in found)


class Checks(Case):
    def all_raise(self, error, claim):
        for thing in ((), None, (1,), ((1,), 0), []):
            self.refuses(error, is_paper_for, claim, thing)
            self.refuses(error, is_paper_against, claim, thing)
        self.refuses(error, is_so, claim)
        self.refuses(error, paper, claim)
        self.refuses(error, first_false, (claim,))
        self.refuses(error, verdicts, (("open", ODD), claim), (7, 7))

    def test_too_many_doings(self):
        for claim in (("open", TOO_MUCH), ("open", TOO_LARGE), ("left", TOO_MUCH, ((),), 99), ("come", TOO_LARGE, ((1,),), None, 0),
                      ("served", TOO_MUCH, ((),), 1), ("right", TOO_MUCH, SHUFFLER)):
            self.all_raise(TooMuch(), claim)

    def test_then_not_open(self):
        for claim in (("left", ODD, ((),), 99), ("come", FIRST, ((1,),), None, 0), ("served", TWO, ((),), 1), ("right", ODD, PLAIN), ("right", ODD, SHUFFLER),
                      ("served", MUCH, ((),), 1), ("left", COUNTED, ((),), 0)):
            self.all_raise(Unfit(), claim)

    def test_too_many_pairs(self):
        for claim in (("right", SOME, SHUFFLER), ("right", MIXED, SHUFFLER)):
            for call in (lambda: is_so(claim), lambda: paper(claim), lambda: is_paper_for(claim, ()), lambda: is_paper_against(claim, ((1,), 0)),
                         lambda: verdicts((claim,), (None,)), lambda: first_false((("open", SOME), claim))):
                self.assertRaises(TooMuch, call)
        with mock.patch.object(judged, "MOST_PAIRS", 1):
            self.all_raise(TooMuch(), ("right", SOME, PLAIN))
            self.all_raise(TooMuch(), ("right", SOME, FLIP))

    def test_neither(self):
        self.gives(True, is_so, ("alike", TOO_MUCH, least_question(TOO_MUCH)))
        self.gives((), paper, ("alike", TOO_LARGE, TOO_LARGE))
        self.gives(False, is_so, ("most", SHUFFLER, 3))

    def test_not_equally_many(self):
        # Ahead of TooMuch().
        for claims, things in (((("open", TOO_MUCH),), ()), ((), (1,)), ((("open", SOME), ("open", TOO_MUCH)), ((),)), ((("open", SOME),), ((), ()))):
            self.refuses(Unfit(), verdicts, claims, things)

    def test_in_order(self):
        self.refuses(TooMuch(), verdicts, (("open", SOME), ("open", TOO_MUCH), ("left", ODD, ((),), 0)), ((), (), ()))
        self.refuses(Unfit(), verdicts, (("open", SOME), ("left", ODD, ((),), 0), ("open", TOO_MUCH)), ((), (), ()))

    def test_all_that_is_listed(self):
        for question in (SOME, BESIDE, BOTH, EITHER):
            self.gives(True, is_so, ("open", question))


if __name__ == "__main__":
    unittest.main()
