"""Point 18: walkers judged, and beaten."""

import itertools
import unittest
from unittest import mock

from roundtold import judged
from roundtold.errors import CanNot, TooMuch, Unfit
from roundtold.few import walker_for
from roundtold.grades import swing
from roundtold.judged import (
    against, is_against, is_pump, is_right, is_wrong, most_words, pump, wrong,
)
from roundtold.walkers import is_walker, mirrored_walker
from tests import oracle
from tests.helper import Case, words_to
from tests.samples import (
    BOTH, COUNTED, EITHER, FIRST, GREATEST, LARGE, MADE, MIXED, MUCH, ODD, ONE, ONE_WIDE, OPEN, RANKS, SIDE, SOME, TOO_LARGE,
    TOO_MUCH, TWO, has, machine,
)

PLAIN = ((((0, 1), (1, 1)), ((1, 1), (1, 1))), (0, 1))
FLIP = ((((0, 1), (1, 1)), ((0, 1), (1, 1))), (0, 1))
SLOW = ((((0, 1), (1, 1)), ((2, 1), (1, 1)), ((2, 1), (2, 1))), (0, None, 1))
STANDS = ((((0, 0), (1, 0)), ((1, 0), (1, 0))), (0, 1))
SILENT = ((((0, 1), (0, 1)),), (None,))
# Goes back over 1s to a 2, then on over 1s to the next one, and so by turns.
TURNER = ((((0, -1), (1, 1)), ((1, 1), (0, -1))), (None, 3))
BACK = mirrored_walker(PLAIN)
ONE_ROUND = ((((1, 1),), ((0, 1),)), (7, 7))
SWING_ROUND = ((((1, 1),), ((0, 1),)), (0, 1))
# All RINGS are answered 0.
ALL_ZERO = (((0, 0),), (0,))


def shuffler(says):
    """A WALKER whose WORDS put its STATES in all orders."""
    many = len(says)
    return tuple((((own + 1) % many, 1), ({0: 1, 1: 0}.get(own, own), 1)) for own in range(many)), says


SHUFFLER, TURNING = shuffler((0, None, 1, None, None, None, None, None)), shuffler((None,) * 7)


def goer(rows, says):
    """The WALKER that goes on, with these STATES behind its letters."""
    return tuple(tuple((state, 1) for state in row) for row in rows), says


# As many pairs of a DOING and a kind as are worked with by ALL_ZERO, and one more.
MOST_PAIRS = goer(((4, 1), (3, 3), (0, 3), (1, 4), (2, 2), (7, 5), (6, 6), (5, 6)), (None, 0, None, None, 1, 0, 1, None))
TOO_MANY_PAIRS = goer(((0, 4), (2, 5), (4, 6), (0, 3), (7, 3), (6, 0), (5, 5), (1, 2)), (1, None, 0, None, 0, 0, 1, None))
# They go to and fro before they say what GREATEST asks for: what they see on the way tells what they do.
WANDERERS = (
    ((((4, 1), (4, 0), (3, 1)), ((3, 1), (3, 1), (1, 1)), ((1, -1), (1, 0), (0, -1)), ((4, 1), (4, 1), (4, 0)), ((1, 1), (0, -1), (1, 1))), (1, None, 1, 0, None)),
    ((((4, 1), (4, 0), (4, 1)), ((3, 1), (3, 1), (1, 1)), ((1, -1), (1, 0), (2, -1)), ((4, 1), (4, 1), (4, 0)), ((1, 1), (0, -1), (1, 1))), (1, None, 0, 0, None)),
    ((((4, 1), (4, 0), (2, 1)), ((3, 1), (2, 1), (1, -1)), ((2, 1), (3, -1), (2, -1)), ((4, 1), (4, 1), (2, 1)), ((1, 1), (0, -1), (1, 0))), (1, None, 0, 0, None)),
    ((((4, 1), (4, 0), (1, 1)), ((3, 1), (0, 1), (2, 1)), ((2, 1), (3, -1), (2, -1)), ((4, 1), (4, 1), (2, 1)), ((1, 1), (0, -1), (2, 1))), (1, None, 0, 0, None)),
    ((((4, 1), (4, 1), (1, 1)), ((3, 1), (4, 0), (3, 1)), ((3, -1), (3, -1), (2, 0)), ((4, 1), (4, 1), (4, 1)), ((1, 1), (0, -1), (4, 0))), (1, None, 1, 0, None)),
    ((((4, 1), (3, 0), (1, 1)), ((3, 1), (2, 1), (4, -1)), ((1, 0), (2, -1), (0, -1)), ((4, 1), (4, 1), (0, 1)), ((3, 1), (0, -1), (1, 1))), (1, None, None, 0, None)),
    ((((4, 1), (2, 1), (4, -1)), ((3, 1), (1, 1), (4, 1)), ((2, 1), (0, -1), (3, -1)), ((4, 1), (4, 1), (0, 0)), ((1, 1), (2, 1), (1, 1))), (1, 0, None, 0, None)),
    ((((4, -1), (4, 0), (3, 1)), ((3, 1), (4, 1), (1, -1)), ((2, 0), (4, 1), (0, 1)), ((4, 1), (1, 1), (0, 0)), ((1, 1), (2, 1), (3, 1))), (None, None, 1, 0, None)),
    ((((3, 0), (4, 1), (3, 1)), ((2, 1), (1, -1), (4, 0)), ((4, 1), (1, 1), (4, -1)), ((3, 1), (2, 1), (2, -1)), ((1, -1), (4, 1), (2, 1))), (0, 1, None, 0, 0)),
    ((((3, 0), (3, 0), (3, 1)), ((2, 1), (1, -1), (3, -1)), ((4, 1), (1, 1), (4, -1)), ((3, 1), (2, 1), (2, -1)), ((1, -1), (4, 1), (3, -1))), (0, 1, None, 0, 0)),
    ((((3, 1), (4, 1), (3, -1)), ((2, 0), (2, -1), (0, 1)), ((4, 1), (3, 1), (3, -1)), ((3, 1), (2, 1), (0, 0)), ((1, -1), (4, 1), (2, -1))), (1, 1, None, 0, None)),
    ((((4, -1), (1, 1), (4, 1)), ((1, 1), (3, 1), (4, -1)), ((4, 1), (4, -1), (4, 1)), ((3, 1), (3, -1), (1, 0)), ((0, 1), (4, 1), (2, -1))), (None, None, None, 1, 0)),
)
QUESTIONS = OPEN + MADE
RINGS = {1: words_to(1, 6, 1), 2: words_to(2, 6, 1), 3: words_to(3, 4, 1)}


def width(question):
    return len(question[0][0])


def walkers_that_go_on(many, wide, says):
    """All WALKERS of so many STATES that go on and say these."""
    rows = list(itertools.product([(state, 1) for state in range(many)], repeat=wide))
    for steps in itertools.product(rows, repeat=many):
        for told in itertools.product(says, repeat=many):
            yield steps, told


def run(walker, ring, room):
    """What is said last behind each step, until room, STATE and SAID come again, and from which step on they do."""
    steps, says = walker
    now, seen, said = (room, 0, None), {}, []
    while now not in seen:
        seen[now] = len(said)
        at, state, last = now
        state, way = steps[state][ring[at] - 1]
        last = last if says[state] is None else says[state]
        said.append(last)
        now = ((at + way) % len(ring), state, last)
    return said, seen[now]


def words_of(said):
    return [told for at, told in enumerate(said) if told is not None and (at == 0 or said[at - 1] != told)]


def settles_on(walker, ring, room):
    """The ANSWER on which it settles, None for none, "wavers"."""
    said, again = run(walker, ring, room)
    return said[-1] if len(set(said[again:])) == 1 else "wavers"


def is_lost(question, walker, ring, room):
    return settles_on(walker, ring, room) != oracle.answer(question, ring)


def kinds_of(question, walker):
    """All pairs of a DOING and a kind, worked out letter by letter from what is said on the way."""
    letters = oracle.letters_of(question)
    steps, says = walker

    def longer(pair, letter):
        doing, kind = pair
        told = []
        for state, said in kind:
            after = steps[state][letter][0]
            told.append((after, said if says[after] is None else said + (says[after],)))
        return oracle.composed(doing, letters[letter]) if doing else letters[letter], tuple(told)

    def short(kind):
        # None, one, or several: of several only the last one counts.
        return tuple((state, said if len(set(said)) == 0 else (said[-1],) if len(set(said)) == 1 else ("several", said[-1]))
                     for state, said in kind)

    start = (None, tuple((state, ()) for state in range(len(steps))))
    found, todo = {}, [start]
    for pair in todo:
        for letter in range(width(question)):
            after = longer(pair, letter)
            key = (after[0], short(after[1]))
            if key not in found:
                found[key] = True
                # Two unlike ANSWERS stand for all that were said.
                todo.append((after[0], tuple((state, said if len(set(said)) < 2 else (said[-1] + 1, said[-1]))
                                             for state, said in after[1])))
    return found


class Right(Case):
    def test_is_right(self):
        for question, walker, so in (
            (SOME, PLAIN, True), (SOME, FLIP, False), (SOME, SLOW, False), (SOME, SILENT, False), (ONE, ONE_ROUND, True), (ONE, SWING_ROUND, False),
            (ONE, ((((0, 1),),), (None,)), False), (EITHER, ((((0, 1), (1, 1), (1, 1)), ((1, 1), (1, 1), (1, 1))), (0, 1)), True),
            (EITHER, ((((0, 1), (1, 1), (1, 1)), ((1, 1), (1, 1), (1, 1))), (None, 1)), False),
        ):
            self.gives(so, is_right, question, walker)

    def test_wrong(self):
        for question, walker, want in (
            (SOME, FLIP, (1, 2)), (SOME, SLOW, (2,)), (SOME, SILENT, (1,)), (ONE, SWING_ROUND, (1,)), (GREATEST, walker_for(GREATEST, 2), (1,)),
            (GREATEST, walker_for(GREATEST, 1), (1,)), (SOME, ((((0, 1), (1, 1)), ((1, 1), (1, 1))), (0, 0)), (2,)),
            (MIXED, ((((0, 1), (1, 1)), ((0, 1), (1, 1))), (0, 0)), (1, 2)), (SIDE, ((((0, 1), (0, 1)),), (0,)), (2,)),
            (SOME, ((((0, 1), (1, 1)), ((1, 1), (2, 1)), ((2, 1), (2, 1))), (0, 1, 0)), (2,)),
        ):
            self.gives(want, wrong, question, walker)

    def test_right_ones_are_not_wrong(self):
        for question, walker in ((SOME, PLAIN), (ONE, ONE_ROUND)):
            self.refuses(CanNot(), wrong, question, walker)
        for question in QUESTIONS:
            for many in range(1, swing(question) + 1):
                walker = walker_for(question, many)
                if many == swing(question):
                    self.same(is_right(question, walker), True)
                    self.assertRaises(CanNot, wrong, question, walker)
                else:
                    ring = wrong(question, walker)
                    self.same(is_right(question, walker), False)
                    self.assertTrue(is_lost(question, walker, ring, 0))

    def check_wrong(self, question, walker):
        """The least RING of all that are few rooms long, or a longer one; none from any room if it is right."""
        found = [ring for ring in RINGS[width(question)] if is_lost(question, walker, ring, 0)]
        if is_right(question, walker):
            self.assertRaises(CanNot, wrong, question, walker)
            self.same(found, [])
            self.same([1 for ring in RINGS[width(question)][:40] for room in range(len(ring)) if is_lost(question, walker, ring, room)], [])
            return
        ring = wrong(question, walker)
        self.assertTrue(is_lost(question, walker, ring, 0))
        if found:
            self.same(ring, found[0])
        else:
            self.assertLess(len(RINGS[width(question)][-1]), len(ring))

    def test_as_rings_tell(self):
        right = 0
        for walker in walkers_that_go_on(2, 2, (None, 0, 1)):
            for question in (SOME, MIXED, SIDE):
                self.check_wrong(question, walker)
                right += is_right(question, walker)
        self.assertLess(0, right)

    def test_some_of_three_states(self):
        for walker in itertools.islice(walkers_that_go_on(3, 2, (None, 0, 1)), 0, None, 97):
            for question in (SOME, MADE[1]):
                self.check_wrong(question, walker)

    def test_three_letters(self):
        for walker in itertools.islice(walkers_that_go_on(2, 3, (0, 1, 2)), 0, None, 7):
            for question in (GREATEST, RANKS):
                self.check_wrong(question, walker)

    def test_much_must_be_read(self):
        # It says what is not so for ever when it has read these, in a row.
        for word in ((1, 1, 2, 1, 2, 2), (1, 2, 1, 1, 1, 1, 1), (2, 2, 2, 1, 1, 1)):
            steps, says = has(word, 2)
            late = tuple(tuple((state, 1) for state in row) for row in steps), says
            least = next(ring for ring in words_to(2, 7, 1) if word == tuple(ring[at % len(ring)] for at in range(len(word)))
                         or is_lost(ALL_ZERO, late, ring, 0))
            self.gives(least, wrong, ALL_ZERO, late)
            self.assertLess(5, len(least))

    def test_too_many_pairs(self):
        for question, walker in ((SOME, PLAIN), (SOME, FLIP), (SIDE, SLOW), (ONE, SWING_ROUND), (GREATEST, walker_for(GREATEST, 3))):
            many = len(kinds_of(question, walker))
            with mock.patch.object(judged, "MOST_PAIRS", many):
                so = is_right(question, walker)
                self.same(so, settles_everywhere(question, walker))
            with mock.patch.object(judged, "MOST_PAIRS", many - 1):
                # Also if a RING was found, or there is none: ahead of CanNot().
                self.refuses(TooMuch(), is_right, question, walker)
                self.refuses(TooMuch(), wrong, question, walker)

    def test_as_many_as_are_worked_with(self):
        self.same(len(kinds_of(ALL_ZERO, MOST_PAIRS)), 20000)
        ring = wrong(ALL_ZERO, MOST_PAIRS)
        self.same(ring, next(own for own in words_to(2, 9, 1) if is_lost(ALL_ZERO, MOST_PAIRS, own, 0)))
        self.same(is_right(ALL_ZERO, MOST_PAIRS), False)
        self.same(len(kinds_of(ALL_ZERO, TOO_MANY_PAIRS)), 20001)
        # Also if a RING was found.
        self.assertRaises(TooMuch, is_right, ALL_ZERO, TOO_MANY_PAIRS)
        self.assertRaises(TooMuch, wrong, ALL_ZERO, TOO_MANY_PAIRS)
        self.assertTrue(any(is_lost(ALL_ZERO, TOO_MANY_PAIRS, own, 0) for own in words_to(2, 3, 1)))

    def test_more_than_that(self):
        for question in (SOME, SIDE, MIXED):
            self.assertRaises(TooMuch, is_right, question, SHUFFLER)
            self.assertRaises(TooMuch, wrong, question, SHUFFLER)
        # Nothing else minds.
        self.gives(True, is_wrong, SOME, SHUFFLER, ((1,), 0))
        self.gives(None, most_words, SHUFFLER)

    def test_many_but_not_too_many(self):
        self.assertLess(5000, len(kinds_of(SOME, TURNING)))
        self.assertLess(len(kinds_of(SOME, TURNING)), 20000)
        self.gives(False, is_right, SOME, TURNING)




def settles_everywhere(question, walker):
    return not any(is_lost(question, walker, ring, 0) for ring in RINGS[width(question)])


class Wrong(Case):
    def test_is_wrong(self):
        for question, walker, thing, so in (
            (SOME, FLIP, ((1, 2), 1), True), (SOME, FLIP, ((1, 2), 0), True), (SOME, FLIP, ((2, 2), 0), False), (SOME, PLAIN, ((1, 2), 0), False),
            (SOME, FLIP, ((1, 2), 2), False), (SOME, FLIP, ((1, 2), -1), False), (SOME, FLIP, ([1, 2], 1), False), (SOME, FLIP, [(1, 2), 1], False),
            (SOME, FLIP, ((1, 2), True), False), (SOME, FLIP, ((1, 2), None), False), (SOME, FLIP, ((1, 2),), False),
            (SOME, FLIP, ((1, 2), 1, 0), False), (SOME, FLIP, ((1, 3), 1), False), (SOME, FLIP, ((), 0), False), (SOME, FLIP, (1, 2), False),
            (SOME, FLIP, None, False), (SOME, FLIP, (), False), (SOME, FLIP, "12", False), (SOME, FLIP, True, False),
            (SOME, FLIP, ((1, True), 0), False), (SOME, FLIP, ((1, 2) * 200, 399), True), (SOME, FLIP, ((1, 2), 10 ** 30), False),
            (SOME, STANDS, ((1, 2), 0), True), (SOME, STANDS, ((1, 2), 1), False), (SOME, STANDS, ((1,), 0), False), (SOME, BACK, ((1, 1, 2), 0), False),
            (SOME, SILENT, ((1,), 0), True), (SOME, SILENT, ((2,), 0), True), (SOME, TURNER, ((1, 2, 1), 0), True),
            (SIDE, BACK, ((1, 2), 0), True), (SIDE, BACK, ((2,), 0), False),
        ):
            self.gives(so, is_wrong, question, walker, thing)

    def test_as_it_is_said(self):
        for walker in (PLAIN, FLIP, SLOW, STANDS, SILENT, TURNER, BACK):
            for question in (SOME, SIDE, MADE[0]):
                for ring in RINGS[2][:30]:
                    for room in range(len(ring)):
                        self.same(is_wrong(question, walker, (ring, room)), is_lost(question, walker, ring, room))

    def test_nested_deep(self):
        thing = ()
        for _ in range(98):
            thing = (thing,)
        for own in (thing, (thing, 0), ((1,), thing)):
            self.gives(False, is_wrong, SOME, FLIP, own)
            self.gives(False, is_against, SOME, FLIP, own)
            self.gives(False, is_pump, FLIP, own)


class Most(Case):
    def test_most_words(self):
        for walker, want in (
            (PLAIN, 2), (FLIP, None), (SLOW, 2), (SILENT, 0), (ONE_ROUND, 1), (SWING_ROUND, None), (((((0, 1),),), (5,)), 1),
            (((((1, 1), (0, 1)), ((2, 1), (0, 1)), ((2, 1), (2, 1))), (None, 4, 6)), 2),
            (((((1, 1), (0, 1)), ((2, 1), (0, 1)), ((2, 1), (0, 1))), (None, 4, 6)), None),
            (((((1, 1), (0, 1)), ((2, 1), (1, 1)), ((2, 1), (2, 1))), (None, 4, 6)), 2),
            # A STATE that is never come to tells nothing.
            (((((0, 1), (0, 1)), ((0, 1), (1, 1))), (3, 4)), 1),
            # It says what it has said, and nothing, by turns: no other word comes.
            (((((1, 1),), ((0, 1),)), (4, None)), 1),
            (((((1, 1),), ((2, 1),), ((3, 1),), ((4, 1),), ((4, 1),)), (9, 0, None, 1, 0)), 3),
        ):
            self.gives(want, most_words, walker)

    def test_as_rings_tell(self):
        seen = set()
        for walker in itertools.chain(walkers_that_go_on(2, 2, (None, 0, 1)),
                                      itertools.islice(walkers_that_go_on(3, 2, (None, 0, 1, 2)), 0, None, 331)):
            most = most_words(walker)
            seen.add(most)
            told = [run(walker, ring, 0) for ring in words_to(2, 5, 1)]
            wavers = any(len(set(said[again:])) > 1 for said, again in told)
            if most is None:
                x, y = pump(walker)
                self.check_pump(walker, x, y)
                self.assertTrue(wavers or len(x + y) > 5)
            else:
                self.assertRaises(CanNot, pump, walker)
                self.assertFalse(wavers)
                # Three STATES have said what they can within five letters and one round more.
                self.same(max(len(words_of(said)) for said, _ in told), most)
        self.assertLessEqual({None, 0, 1, 2, 3}, seen)

    def check_pump(self, walker, x, y):
        self.assertTrue(y != () and set(x + y) <= {1, 2})
        self.same(is_pump(walker, (x, y)), True)
        said, _ = run(walker, x + y * 8, 0)
        self.assertLessEqual(8, len(words_of(said)))

    def test_pump(self):
        for walker in (FLIP, SHUFFLER):
            pair = pump(walker)
            self.assertTrue(isinstance(pair, tuple) and len(pair) == 2 and all(isinstance(own, tuple) for own in pair))
            self.gives(pair, pump, walker)
            self.gives(True, is_pump, walker, pair)
            self.check_pump(walker, *pair)
        self.gives(True, lambda walker: is_pump(walker, pump(walker)), SWING_ROUND)

    def test_there_is_none(self):
        for walker in (PLAIN, SLOW, SILENT, ONE_ROUND):
            self.refuses(CanNot(), pump, walker)
            for thing in (((1,), (1,)), ((), (1,)), None):
                self.gives(False, is_pump, walker, thing)

    def test_is_pump(self):
        for thing, so in (
            (((1, 2), (1, 2)), True), (((), (1, 2)), False), (((2,), (1, 2)), True), (((1,), (2, 1)), True), (((1,), (2,)), False), (((2,), (2,)), False),
            (((1,), (1,)), False), (((1,), ()), False), (((1,), (2, 2, 1)), True), (((), ()), False), (((1,), [2, 1]), False), ([(1,), (2, 1)], False),
            (([1], (2, 1)), False), (((1,), (2, 1), (1,)), False), (((1,),), False), (((1,), (2, 3)), False), (((3,), (2, 1)), False),
            (((1,), (2, True)), False), (((True,), (2, 1)), False), (((1,), None), False), ((1, 2), False), (None, False), ((), False), ("12", False),
            (True, False), (((1,) * 300, (2,) * 500 + (1,)), True),
        ):
            self.gives(so, is_pump, FLIP, thing)
        self.gives(False, is_pump, PLAIN, ((1,), (2,)))
        # The same STATE, but another SAID: what is said on the way is not said again.
        other = ((((1, 1), (0, 1)), ((0, 1), (0, 1))), (None, 4))
        self.gives(False, is_pump, other, ((), (1, 1)))
        self.gives(False, is_pump, other, ((1, 1), (1, 1)))

    def test_is_pump_as_it_is_said(self):
        for walker in itertools.islice(walkers_that_go_on(2, 2, (None, 0, 1)), 0, None, 3):
            for x, y in itertools.product(words_to(2, 2), words_to(2, 3)):
                ahead = self.come_to(walker, x)
                both = self.come_to(walker, x + y)
                so = y != () and ahead[:2] == both[:2] and len(words_of(both[2])) > len(words_of(ahead[2]))
                self.same(is_pump(walker, (x, y)), so)

    def come_to(self, walker, word):
        """STATE, SAID and all that was said last behind each letter."""
        state, last, said = 0, None, []
        for letter in word:
            state = walker[0][state][letter - 1][0]
            last = last if walker[1][state] is None else walker[1][state]
            said.append(last)
        return state, last, said


class Against(Case):
    def check(self, question, walker):
        ring, room = against(question, walker)
        self.assertTrue(set(ring) <= set(range(1, width(question) + 1)) and 0 <= room < len(ring))
        said, _ = run(walker, ring, room)
        self.assertTrue(is_lost(question, walker, ring, room) or len(words_of(said)) >= swing(question))
        self.same(is_against(question, walker, (ring, room)), True)
        return ring, room

    def test_all_walkers_of_two_states(self):
        for ways in ((1, 1, 1, 1), (1, -1, -1, 1), (0, 1, -1, 1), (-1, -1, -1, 0)):
            for steps, says in walkers_that_go_on(2, 2, (None, 0, 1)):
                walker = (tuple(tuple((steps[state][at][0], ways[2 * state + at]) for at in (0, 1)) for state in (0, 1)), says)
                self.check(SOME, walker)
                self.check(MADE[1], walker)

    def test_right_walkers(self):
        for question in QUESTIONS + [LARGE]:
            for many in range(swing(question) + 1):
                walker = walker_for(question, many)
                self.check(question, walker)
                # The same, going back: it reads all RINGS from their ends.
                self.check(question, mirrored_walker(walker))
                self.check(question, dawdler(walker))

    def test_wanderers(self):
        for walker in WANDERERS:
            self.assertTrue(is_walker(walker))
            for own in (walker, mirrored_walker(walker), dawdler(walker)):
                self.check(GREATEST, own)

    def test_right_ones_say_so_many_words(self):
        for question in QUESTIONS:
            for walker in (walker_for(question, swing(question)), dawdler(walker_for(question, swing(question)))):
                ring, room = self.check(question, walker)
                if not is_lost(question, walker, ring, room):
                    said, _ = run(walker, ring, room)
                    self.assertLessEqual(swing(question), len(words_of(said)))
            self.assertFalse(is_lost(question, walker_for(question, swing(question)), *against(question, walker_for(question, swing(question)))))

    def test_against_again(self):
        for question, walker in ((SOME, PLAIN), (SOME, STANDS), (SIDE, TURNER), (GREATEST, walker_for(GREATEST, 3)), (ONE, SWING_ROUND)):
            pair = against(question, walker)
            self.assertTrue(isinstance(pair, tuple) and isinstance(pair[0], tuple))
            self.gives(pair, against, question, walker)
            self.gives(True, is_against, question, walker, pair)

    def test_is_against(self):
        for question, walker, thing, so in (
            (SOME, PLAIN, ((1, 2), 0), True), (SOME, PLAIN, ((1, 2), 1), False), (SOME, PLAIN, ((1,), 0), False), (SOME, STANDS, ((1, 2), 0), True),
            (SOME, STANDS, ((1, 2), 1), False), (SOME, PLAIN, ([1, 2], 0), False), (SOME, PLAIN, [(1, 2), 0], False), (SOME, PLAIN, ((1, 2), 2), False),
            (SOME, PLAIN, ((1, 2), False), False), (SOME, PLAIN, ((1, 2),), False), (SOME, PLAIN, None, False), (SOME, PLAIN, ((1, 3), 0), False),
            (SOME, PLAIN, ((), 0), False), (SOME, PLAIN, (1, 2), False), (SOME, FLIP, ((1, 2), 1), True), (SOME, FLIP, ((2,), 0), False),
            (ONE, ONE_ROUND, ((1,), 0), True), (ONE, SWING_ROUND, ((1, 1), 1), True), (SOME, PLAIN, ((1,) * 700 + (2,), 3), True),
            (SOME, PLAIN, ((1, 2), -2), False),
        ):
            self.gives(so, is_against, question, walker, thing)

    def test_is_against_as_it_is_said(self):
        for walker in (PLAIN, FLIP, SLOW, STANDS, SILENT, TURNER, BACK, walker_for(MADE[1], 2)):
            for question in (SOME, SIDE, MADE[1]):
                for ring in RINGS[2][:30]:
                    for room in range(len(ring)):
                        said, _ = run(walker, ring, room)
                        so = is_lost(question, walker, ring, room) or len(words_of(said)) >= swing(question)
                        self.same(is_against(question, walker, (ring, room)), so)


def dawdler(walker):
    """A WALKER that reads as this one does, but goes back and on again ahead of each step: two STATES more for each."""
    steps, says = walker
    many, wide = len(steps), len(steps[0])
    rows = [tuple((many + state, -1) for _ in range(wide)) for state in range(many)]
    rows += [tuple((2 * many + state, 1) for _ in range(wide)) for state in range(many)]
    rows += list(steps)
    return tuple(rows), tuple(says) + (None,) * (2 * many)


class Checks(Case):
    def calls(self, ring=(1,)):
        return ((is_right, ()), (wrong, ()), (is_wrong, ((ring, 0),)), (is_wrong, (None,)), (against, ()), (is_against, ((ring, 0),)),
                (is_against, (7,)))

    def test_errors_of_the_question_first(self):
        for question, error in ((TOO_MUCH, TooMuch()), (TOO_LARGE, TooMuch()), (ODD, Unfit()), (FIRST, Unfit()), (MUCH, Unfit()),
                                (TWO, Unfit()), (COUNTED, Unfit())):
            for function, rest in self.calls():
                # Also with a WALKER of other letters, or one that does not go on.
                for walker in (PLAIN, STANDS, ONE_ROUND):
                    self.refuses(error, function, question, walker, *rest)

    def test_then_other_letters(self):
        for question, walker in ((SOME, ONE_ROUND), (ONE, PLAIN), (GREATEST, FLIP), (ONE_WIDE, STANDS), (BOTH, TURNER), (ONE, SHUFFLER)):
            for function, rest in self.calls():
                self.refuses(Unfit(), function, question, walker, *rest)

    def test_then_it_goes_on(self):
        for walker in (STANDS, TURNER, BACK):
            for function in (is_right, wrong):
                self.refuses(Unfit(), function, SOME, walker)
            self.refuses(Unfit(), most_words, walker)
            self.refuses(Unfit(), pump, walker)
            for thing in (((1,), (2,)), ((1, 2), (1, 2)), None):
                self.refuses(Unfit(), is_pump, walker, thing)

    def test_then_too_many_pairs(self):
        # Eight STATES put in all orders, but turned about on the way: it does not go on.
        steps, says = SHUFFLER
        back = ((((1, -1), (1, 1)),) + steps[1:], says)
        self.refuses(Unfit(), is_right, SOME, back)
        self.refuses(Unfit(), is_right, ODD, SHUFFLER)
        self.refuses(Unfit(), is_right, ONE, SHUFFLER)


class Machine(Case):
    def test_samples(self):
        # A machine of the tests is a QUESTION as they are written.
        self.same(machine(0, 2, lambda state, letter: max(state, letter - 1), lambda state: state), SOME)


if __name__ == "__main__":
    unittest.main()
