"""Point 8: walkers."""

import itertools
import unittest

from roundtold.errors import CanNot, NoPlace
from roundtold.rings import turned
from roundtold.walkers import (
    all_words, goes_on, is_walker, mirrored_walker, played, said_after, settled, settles_behind, wide_walked, words,
)
from tests.helper import Case, words_to

SEEKER = ((((1, 1), (2, 1)), ((1, 1), (2, 1)), ((2, 1), (2, 1))), (None, 0, 1))
TURNER = ((((0, -1), (1, 1)), ((1, 1), (0, -1))), (None, 3))
SWING_ROUND = ((((1, 1),), ((0, 1),)), (0, 1))
SILENT = ((((0, 1), (0, 1), (0, 1)),), (None,))
STANDS = ((((0, 0), (1, 0)), ((1, 0), (1, 0))), (0, 1))
# Says 4 again and again, and None between.
AGAIN = ((((1, 1),), ((2, 1),), ((1, 1),)), (None, 4, None))
# Says 5 at its first step, 6 at its second one, then goes back for ever and says nothing more.
BACK = ((((1, 0), (1, 1)), ((2, 1), (2, 0)), ((3, -1), (3, -1)), ((3, -1), (3, -1))), (9, 5, 6, None))
# Eight STATES: says how many 2s it saw, to 7, then 7 for ever.
EIGHT = (tuple(((state, 1), (min(state + 1, 7), 1)) for state in range(8)), (None, 1, 2, 3, 4, 5, 6, 7))
# Says 1 at a 2 on its ways on, 2 at one on its ways back, and turns at each 3.
EVER = ((((0, 1), (1, 1), (2, -1)), ((0, 1), (1, 1), (2, -1)), ((2, -1), (3, -1), (0, 1)), ((2, -1), (3, -1), (0, 1))),
        (None, 1, None, 2))

WALKERS = [SEEKER, TURNER, SWING_ROUND, SILENT, STANDS, AGAIN, BACK, EIGHT, EVER]


def walkers_of(many, wide):
    """Some WALKERS of so many STATES."""
    ways = list(itertools.product(range(many), (-1, 0, 1)))
    rows = list(itertools.product(ways, repeat=wide))
    says = list(itertools.product((None, 0, 1), repeat=many))
    for number, steps in enumerate(itertools.product(rows, repeat=many)):
        yield steps, says[number % len(says)]


SOME_WALKERS = WALKERS + list(itertools.islice(walkers_of(2, 1), 36)) + list(itertools.islice(walkers_of(2, 2), 0, None, 23))

NO_WALKERS = (
    None, True, 0, 7, "", "ab", (), [], ((),), ((), ()), ((), (0,)), (((),), (0,)), (((),), (None,)), ("a", "b"),
    # Lists for tuples.
    [(((0, 1),),), (0,)], ([((0, 1),)], (0,)), (([(0, 1)],), (0,)), ((([0, 1],),), (0,)), ((((0, 1),),), [0]),
    [[[[0, 1]]], [0]],
    # More or less than a pair.
    ((((0, 1),),),), ((((0, 1),),), (0,), ()), ((((0, 1),),), (0,), (0,)), ((((0,),),), (0,)), ((((0, 1, 1),),), (0,)),
    ((((),),), (0,)),
    # A QUESTION is none.
    (((0,),), (0,)), (((0, 1), (1, 1)), (0, 1)),
    # Not as much said as there are STATES.
    ((((0, 1),),), ()), ((((0, 1),),), (0, 0)), ((((0, 1),), ((0, 1),)), (None,)),
    # Too many letters, or not equally many.
    ((((0, 1), (0, 1), (0, 1), (0, 1)),), (0,)), ((((0, 1), (0, 1)), ((0, 1),)), (0, 0)), ((((0, 1),), ()), (0, 0)),
    ((((0, 1),), ((0, 1), (0, 1))), (0, 0)),
    # No such STATES.
    ((((1, 1),),), (0,)), ((((-1, 1),),), (0,)), ((((0, 1),), ((2, 1),)), (0, 0)), ((((10 ** 30, 1),),), (0,)),
    # No ways.
    ((((0, 2),),), (0,)), ((((0, -2),),), (0,)), ((((0, 10 ** 30),),), (0,)), ((((0, None),),), (0,)), ((((0, ">"),),), (0,)),
    ((((0, True),),), (0,)), ((((0, False),),), (0,)), ((((0, (1,)),),), (0,)),
    # No numbers.
    ((((False, 1),),), (0,)), ((((None, 1),),), (0,)), (((("0", 1),),), (0,)), ((((0, 1),), ((True, 1),)), (0, 0)),
    ((("01",),), (0,)), (((0,),), (0,)), ((0,), (0,)), ((None,), (0,)), ((((0, 1),), None), (0, 0)), ((((0, 1),), "0"), (0, 0)),
    # Nothing that may be said.
    ((((0, 1),),), (-1,)), ((((0, 1),),), (True,)), ((((0, 1),),), ("0",)), ((((0, 1),),), ((0,),)), ((((0, 1),),), 0),
    ((((0, 1),),), None), ((((0, 1),),), "0"), ((((0, 1),), ((0, 1),)), (None, False)), ((((0, 1),), ((0, 1),)), (0, -1)),
    ((((0, 1),),), ([],)),
)


def simply_played(walker, ring, room, steps):
    """The triples, and the words, found apart from the functions that are tested."""
    state, said, triples, found = 0, None, [], []
    for _ in range(steps):
        state, way = walker[0][state][ring[room] - 1]
        room += way
        room = 0 if room == len(ring) else len(ring) - 1 if room < 0 else room
        if walker[1][state] is not None:
            if not found or found[-1] != walker[1][state]:
                found.append(walker[1][state])
            said = walker[1][state]
        triples.append((room, state, said))
    return tuple(triples), tuple(found)


def rings_for(walker):
    return words_to(len(walker[0][0]), 4 if len(walker[0][0]) < 3 else 3, 1)


def pairs_for(walker):
    """All pairs of a short RING and a room of it."""
    return [(ring, room) for ring in rings_for(walker) for room in range(len(ring))]


class Things(Case):
    def test_walkers(self):
        for walker in SOME_WALKERS:
            self.gives(True, is_walker, walker)

    def test_no_walkers(self):
        for thing in NO_WALKERS:
            self.gives(False, is_walker, thing)

    def test_of_any_size(self):
        many = 2000
        steps = tuple((((state + 1) % many, 1), (0, -1), (many - 1, 0)) for state in range(many))
        self.gives(True, is_walker, (steps, (None, 10 ** 30) * (many // 2)))
        self.gives(False, is_walker, (steps, (None,) * (many - 1)))
        self.gives(False, is_walker, (steps, (None,) * (many - 1) + (-1,)))
        self.gives(False, is_walker, (steps[:-1] + (((0, 1), (0, -1), (many, 0)),), (None,) * many))
        self.gives(False, is_walker, (steps[:-1] + (((0, 1), (0, -1)),), (None,) * many))

    def test_nested_deep(self):
        for build in (tuple, list):
            thing = build()
            for _ in range(95):
                thing = build((thing,))
            for own in (thing, (thing, (0,)), (((thing,),), (0,)), ((((thing, 1),),), (0,)), ((((0, thing),),), (0,)),
                        ((((0, 1),),), (thing,)), ((((0, 1),),), thing)):
                self.gives(False, is_walker, own)

    def test_wide_walked(self):
        for walker, wide in ((SEEKER, 2), (SWING_ROUND, 1), (SILENT, 3), (EVER, 3), (AGAIN, 1), (EIGHT, 2)):
            self.gives(wide, wide_walked, walker)

    def test_goes_on(self):
        for walker, so in ((SEEKER, True), (TURNER, False), (SWING_ROUND, True), (SILENT, True), (STANDS, False), (BACK, False),
                           (EIGHT, True), (EVER, False)):
            self.gives(so, goes_on, walker)
        # One way, the last one, is enough.
        self.gives(False, goes_on, ((((0, 1), (1, 1)), ((1, 1), (1, 0))), (0, 1)))
        self.gives(False, goes_on, ((((0, 1), (1, 1)), ((1, 1), (1, -1))), (0, 1)))
        self.gives(False, goes_on, ((((0, -1), (1, 1)), ((1, 1), (1, 1))), (0, 1)))

    def test_mirrored_walker(self):
        self.gives(((((0, 1), (1, -1)), ((1, -1), (0, 1))), (None, 3)), mirrored_walker, TURNER)
        self.gives(STANDS, mirrored_walker, STANDS)
        self.gives(((((1, -1),), ((0, -1),)), (0, 1)), mirrored_walker, SWING_ROUND)
        for walker in SOME_WALKERS:
            self.same(mirrored_walker(mirrored_walker(walker)), walker)


class Steps(Case):
    def test_played(self):
        self.gives(((1, 1, 0), (2, 2, 1), (0, 2, 1), (1, 2, 1)), played, SEEKER, (1, 2, 1), 0, 4)
        self.gives(((2, 0, None), (1, 0, None), (2, 1, 3), (0, 1, 3), (1, 1, 3), (0, 0, 3)), played, TURNER, (1, 2, 1), 0, 6)
        self.gives(((0, 1, 1),), played, SWING_ROUND, (1,), 0, 1)
        self.gives(((0, 1, 1), (0, 1, 1)), played, STANDS, (2, 1), 0, 2)
        self.gives((), played, SEEKER, (1, 2, 1), 2, 0)
        self.gives(((0, 1, 4), (0, 2, 4), (0, 1, 4)), played, AGAIN, (1,), 0, 3)
        self.gives(((1, 1, 5), (1, 2, 6), (0, 3, 6), (1, 3, 6)), played, BACK, (2, 2), 0, 4)

    def test_words(self):
        for walker, ring, room, steps, want in (
            (SEEKER, (1, 2, 1), 0, 4, (0, 1)), (SEEKER, (1, 2, 1), 0, 1, (0,)), (SEEKER, (1, 2, 1), 1, 300, (1,)),
            (SEEKER, (1,), 0, 0, ()), (SWING_ROUND, (1,), 0, 5, (1, 0, 1, 0, 1)), (SILENT, (1, 2, 3), 1, 300, ()),
            (AGAIN, (1,), 0, 300, (4,)), (BACK, (2, 2), 0, 300, (5, 6)), (SWING_ROUND, (1, 1), 1, 300, (1, 0) * 150),
            (EIGHT, (2, 1), 0, 9, (1, 2, 3, 4, 5)), (EIGHT, (2, 1), 1, 9, (1, 2, 3, 4)),
        ):
            self.gives(want, words, walker, ring, room, steps)

    def test_step_by_step(self):
        for walker in SOME_WALKERS:
            for ring, room in pairs_for(walker):
                triples, told = simply_played(walker, ring, room, 20)
                self.same(played(walker, ring, room, 20), triples)
                self.same(words(walker, ring, room, 20), told)
                self.same([said_after(walker, ring, room, steps) for steps in range(21)],
                          [None] + [said for _, _, said in triples])

    def test_said_after(self):
        for walker, ring, room, steps, want in (
            (SEEKER, (2,), 0, 0, None), (SEEKER, (1, 1), 1, 10 ** 30, 0), (SWING_ROUND, (1,), 0, 10 ** 30, 0),
            (SWING_ROUND, (1,), 0, 10 ** 30 - 1, 1), (SILENT, (3,), 0, 10 ** 30, None), (AGAIN, (1, 1, 1), 2, 10 ** 30, 4),
            (AGAIN, (1, 1, 1), 2, 0, None), (BACK, (2, 2), 0, 1, 5), (BACK, (2, 2), 0, 10 ** 30, 6), (EIGHT, (2, 1), 0, 12, 6),
            (EIGHT, (2, 1), 0, 13, 7), (EIGHT, (2,) + (1,) * 59, 1, 360, 6), (EIGHT, (2,) + (1,) * 59, 1, 419, 6),
            (EIGHT, (2,) + (1,) * 59, 1, 420, 7), (EIGHT, (2,) + (1,) * 59, 0, 10 ** 30, 7),
        ):
            self.gives(want, said_after, walker, ring, room, steps)

    def test_late_steps(self):
        for walker in WALKERS + SOME_WALKERS[9::10]:
            for ring, room in pairs_for(walker):
                triples, _ = simply_played(walker, ring, room, 260)
                for steps in (59, 100, 131, 200, 259, 260):
                    self.same(said_after(walker, ring, room, steps), triples[steps - 1][2])
                # 240 is a multiple of all that comes again in so small a RING.
                for steps in range(200, 204):
                    self.same(said_after(walker, ring, room, steps + 240 * 10 ** 27), triples[steps - 1][2])


class AtLast(Case):
    def test_settled(self):
        for walker, ring, room, want in (
            (SEEKER, (1, 2, 1), 0, 1), (SEEKER, (1, 1), 0, 0), (TURNER, (1, 2, 1), 0, 3), (TURNER, (1, 1), 0, None),
            (SILENT, (3, 1), 1, None), (AGAIN, (1,), 0, 4), (BACK, (1, 1, 1), 2, 6), (STANDS, (1, 2), 0, 0), (STANDS, (1, 2), 1, 1),
            (EIGHT, (1, 1, 2), 0, 7),
        ):
            self.gives(want, settled, walker, ring, room)

    def test_all_words(self):
        for walker, ring, room, want in (
            (SEEKER, (1, 2, 1), 0, (0, 1)), (SEEKER, (1, 2, 1), 1, (1,)), (TURNER, (1, 1), 0, ()), (BACK, (2, 2), 0, (5, 6)),
            (AGAIN, (1, 1), 1, (4,)), (SILENT, (2,), 0, ()), (EIGHT, (2,), 0, (1, 2, 3, 4, 5, 6, 7)), (EIGHT, (1,), 0, ()),
        ):
            self.gives(want, all_words, walker, ring, room)

    def test_settles_behind(self):
        for walker, ring, room, want in (
            (SEEKER, (1, 2, 1), 0, 2), (SEEKER, (1, 2, 1), 1, 1), (SEEKER, (1, 2, 1), 2, 3), (SEEKER, (1,) * 59 + (2,), 0, 60),
            (TURNER, (1, 2, 1), 0, 3), (TURNER, (1, 1), 0, 0), (SILENT, (1,), 0, 0), (AGAIN, (1,), 0, 1), (BACK, (2, 2), 0, 2),
            (EIGHT, (1, 1, 2), 0, 21), (EIGHT, (1, 1, 2), 2, 19), (EIGHT, (1,) * 59 + (2,), 0, 420),
        ):
            self.gives(want, settles_behind, walker, ring, room)

    def test_wavering(self):
        # EVER says 1 and 2 by turns where a 2 stands between 3s; SWING_ROUND everywhere.
        for walker, ring, room in ((SWING_ROUND, (1,), 0), (SWING_ROUND, (1,) * 60, 59), (EVER, (3, 2, 1), 1)):
            for function in (settled, all_words, settles_behind):
                self.refuses(CanNot(), function, walker, ring, room)

    def test_as_many_steps_tell(self):
        for walker in SOME_WALKERS:
            for ring, room in pairs_for(walker):
                # Behind n S steps at most all comes again; then so many more tell of each word.
                some = 2 * len(ring) * len(walker[0])
                _, early = simply_played(walker, ring, room, some)
                triples, late = simply_played(walker, ring, room, 2 * some)
                if early != late:
                    for function in (settled, all_words, settles_behind):
                        self.assertRaises(CanNot, function, walker, ring, room)
                    continue
                self.same(all_words(walker, ring, room), late)
                self.same(settled(walker, ring, room), late[-1] if late else None)
                behind = settles_behind(walker, ring, room)
                self.same(words(walker, ring, room, behind), late)
                self.assertTrue(behind == 0 or words(walker, ring, room, behind - 1) != late)

    def test_on_powers_and_turned_rings(self):
        for walker in WALKERS + SOME_WALKERS[9::25]:
            for ring, room in pairs_for(walker):
                told = [said for _, _, said in played(walker, ring, room, 30)]
                for other, there in ((ring * 3, room), (turned(ring, 1), (room - 1) % len(ring)),
                                     (turned(ring, -1), (room + 1) % len(ring))):
                    self.same([said for _, _, said in played(walker, other, there, 30)], told)

    def test_mirrored(self):
        for walker in WALKERS + SOME_WALKERS[9::25]:
            for ring, room in pairs_for(walker):
                told = [said for _, _, said in played(walker, ring, room, 30)]
                mirrored = played(mirrored_walker(walker), ring[::-1], len(ring) - 1 - room, 30)
                self.same([said for _, _, said in mirrored], told)


class NoRooms(Case):
    def test_no_such_room(self):
        for ring, room in (((1, 2, 1), 3), ((1, 2, 1), -1), ((1, 2, 1), -3), ((1,), 1), ((2,), 10 ** 30), ((1,) * 60, 60)):
            for function, rest in (
                (played, (1,)), (played, (0,)), (said_after, (0,)), (said_after, (10 ** 30,)), (words, (0,)), (words, (3,)),
                (settled, ()), (all_words, ()), (settles_behind, ()),
            ):
                self.refuses(NoPlace(room), function, SEEKER, ring, room, *rest)

    def test_first_of_all(self):
        # Ahead of CanNot() for one that wavers.
        for function in (settled, all_words, settles_behind):
            self.refuses(NoPlace(1), function, SWING_ROUND, (1,), 1)


if __name__ == "__main__":
    unittest.main()
