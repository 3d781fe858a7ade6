"""Point 4: rings."""

import math
import unittest

from roundtold.errors import CanNot, NoPlace
from roundtold.rings import (
    are_turned, first_apart, is_ring, is_word, least_turned, letter_at, look_alike, read, root, turned,
)
from tests.helper import Case, words_to

SOME_RINGS = words_to(2, 6, 1) + words_to(3, 4, 1)
FEW_RINGS = words_to(2, 5, 1) + words_to(3, 2, 1)
LONG = (1, 2, 2, 3, 1, 3, 2, 1, 1, 2) * 6

NO_WORDS = (
    None, True, False, 0, 1, -1, 10 ** 30, "", "1", "12", [], [1], [1, 2], ((),), ((1,),), ([1],), (1, [1]), (1, ()),
    (True,), (1, True), (False,), (None,), (1, None), ("1",), ("",), (1, "2"), (0,), (1, 0), (-1,), (1, 2, -1), (4,),
    (1, 4), (10 ** 30,), (-10 ** 30, 1), (1, 1, 1, 0),
)


def deep(many, build):
    """Something nested so many levels deep."""
    thing = build()
    for _ in range(many - 1):
        thing = build((thing,))
    return thing


class Words(Case):
    def test_words_and_rings(self):
        for wide in (1, 2, 3):
            for word in words_to(3, 3):
                fits = max(word, default=0) <= wide
                self.gives(fits, is_word, wide, word)
                self.gives(fits and word != (), is_ring, wide, word)

    def test_of_any_length(self):
        for wide in (1, 2, 3):
            self.gives(True, is_word, wide, (1,) * 61)
            self.gives(True, is_ring, wide, (wide,) * 100000)
            self.gives(False, is_word, wide, (1,) * 100000 + (wide + 1,))
            self.gives(False, is_ring, wide, (1,) * 100000 + (True,))
            self.gives(False, is_word, wide, [1] * 1000)

    def test_no_words(self):
        for wide in (1, 2, 3):
            for thing in NO_WORDS:
                self.gives(False, is_word, wide, thing)
                self.gives(False, is_ring, wide, thing)

    def test_the_empty_word_is_no_ring(self):
        for wide in (1, 2, 3):
            self.gives(True, is_word, wide, ())
            self.gives(False, is_ring, wide, ())

    def test_nested_deep(self):
        for thing in (deep(100, tuple), deep(100, list), (1,) * 50 + (deep(99, list),), (deep(99, tuple), 1)):
            self.gives(False, is_word, 3, thing)
            self.gives(False, is_ring, 3, thing)


class Turning(Case):
    def test_turned(self):
        self.gives((1, 2, 3, 1), turned, (1, 2, 3, 1), 0)
        self.gives((2, 3, 1, 1), turned, (1, 2, 3, 1), 1)
        self.gives((1, 1, 2, 3), turned, (1, 2, 3, 1), 3)
        self.gives((1, 2, 3, 1), turned, (1, 2, 3, 1), 4)
        self.gives((3, 1, 1, 2), turned, (1, 2, 3, 1), 6)
        self.gives((1, 1, 2, 3), turned, (1, 2, 3, 1), -1)
        self.gives((2, 3, 1, 1), turned, (1, 2, 3, 1), -7)
        self.gives((2, 3, 1), turned, (1, 2, 3), 10 ** 30)
        self.gives((3, 1, 2), turned, (1, 2, 3), -10 ** 30)

    def test_one_room(self):
        for number in (0, 1, -1, 7, -10 ** 30):
            self.gives((2,), turned, (2,), number)

    def test_turned_twice(self):
        for ring in FEW_RINGS:
            for first in range(-3, 8):
                for second in (-4, 0, 1, 3):
                    self.same(turned(turned(ring, first), second), turned(ring, first + second))
            self.same(turned(ring, len(ring)), ring)

    def test_from_its_room_on(self):
        for ring in SOME_RINGS:
            for room in range(len(ring)):
                self.same(turned(ring, room), ring[room:] + ring[:room])
                self.same(turned(ring, room), read(ring, room, len(ring)))

    def test_least_turned(self):
        self.gives((1, 1, 2, 1, 2), least_turned, (2, 1, 2, 1, 1))
        self.gives((1, 2, 3), least_turned, (3, 1, 2))
        self.gives((1, 1, 1, 2), least_turned, (1, 1, 2, 1))
        self.gives((1, 2, 1, 3), least_turned, (1, 3, 1, 2))
        self.gives((3,), least_turned, (3,))
        self.gives((2, 2), least_turned, (2, 2))
        for ring in SOME_RINGS:
            self.same(least_turned(ring), sorted(ring[k:] + ring[:k] for k in range(len(ring)))[0])
        self.gives((1, 1, 2, 1, 2, 2, 3, 1, 3, 2) * 6, least_turned, LONG)

    def test_are_turned(self):
        for one, other, so in (
            ((1,), (1,), True), ((1,), (2,), False), ((1, 2), (2, 1), True), ((1, 1, 2), (1, 2, 2), False),
            ((1, 2, 3), (3, 1, 2), True), ((1, 2, 3), (3, 2, 1), False), ((1,), (1, 1), False),
            ((1, 2), (1, 2, 1, 2), False), ((1, 2, 1, 2), (2, 1), False), (LONG, turned(LONG, 23), True),
            (LONG, LONG[::-1], False), (LONG, LONG[:59] + (3,), False),
        ):
            self.gives(so, are_turned, one, other)

    def test_are_turned_by_some_number(self):
        for one in FEW_RINGS:
            for other in FEW_RINGS:
                so = any(one[k:] + one[:k] == other for k in range(len(one)))
                self.same(are_turned(one, other), so)


class Roots(Case):
    def test_root(self):
        self.gives(((1,), 1), root, (1,))
        self.gives(((3,), 60), root, (3,) * 60)
        self.gives(((1, 2), 3), root, (1, 2, 1, 2, 1, 2))
        self.gives(((1, 2, 1), 2), root, (1, 2, 1, 1, 2, 1))
        self.gives(((1, 2, 1, 2, 1), 1), root, (1, 2, 1, 2, 1))
        self.gives(((1, 2, 2, 3, 1, 3, 2, 1, 1, 2), 6), root, LONG)
        self.gives((LONG[:59], 1), root, LONG[:59])

    def test_just_one_word_that_is_no_power_of_a_shorter_one(self):
        for ring in SOME_RINGS:
            roots = [ring[:size] for size in range(1, len(ring) + 1) if is_power(ring, ring[:size])]
            plain = [word for word in roots
                     if not any(is_power(word, word[:size]) for size in range(1, len(word)))]
            self.same([(word, len(ring) // len(word)) for word in plain], [root(ring)])

    def test_turned_ones_have_turned_roots(self):
        for ring in SOME_RINGS:
            for room in range(len(ring)):
                word, many = root(turned(ring, room))
                self.same(many, root(ring)[1])
                self.same(word, turned(root(ring)[0], room))

    def test_powers_have_one_root(self):
        for word in words_to(2, 4, 1):
            for many in (2, 3, 5):
                self.same(root(word * many), (root(word)[0], root(word)[1] * many))


def is_power(ring, word):
    return len(ring) % len(word) == 0 and word * (len(ring) // len(word)) == ring


class Reading(Case):
    def test_letter_at(self):
        self.gives(3, letter_at, (1, 2, 3), 2, 0)
        self.gives(1, letter_at, (1, 2, 3), 2, 1)
        self.gives(2, letter_at, (1, 2, 3), 2, 5)
        self.gives(2, letter_at, (2,), 0, 10 ** 30)
        # 10^30 is 1 more than a multiple of 9, of 3 and of 7 each.
        self.gives(3, letter_at, (1, 2, 3), 1, 10 ** 30)
        self.gives(1, letter_at, (1, 2, 3), 1, 10 ** 30 + 1)
        self.gives(2, letter_at, (1, 1, 1, 1, 1, 1, 2), 5, 10 ** 30)
        self.gives(1, letter_at, (1, 1, 1, 1, 1, 1, 2), 4, 10 ** 30)
        self.gives(1, letter_at, (2, 1, 1, 1, 1, 1, 1), 0, 10 ** 30 - 2)

    def test_read(self):
        self.gives((2, 3, 1, 2), read, (1, 2, 3), 1, 4)
        self.gives((3,), read, (1, 2, 3), 2, 1)
        self.gives((), read, (1, 2, 3), 2, 0)
        self.gives((), read, (1,), 0, 0)
        self.gives((1,) * 300, read, (1,), 0, 300)
        self.gives((2, 1) * 150, read, (1, 2), 1, 300)
        self.gives(LONG[59:] + LONG * 4 + LONG[:59], read, LONG, 59, 300)

    def test_letter_by_letter(self):
        for ring in SOME_RINGS:
            for room in range(len(ring)):
                word = (ring * 15)[room:room + 14]
                self.same(read(ring, room, 14), word)
                self.same(tuple(letter_at(ring, room, step) for step in range(14)), word)

    def test_no_such_room(self):
        for ring in ((1,), (1, 2, 3), LONG):
            for place in (-1, -len(ring), len(ring), len(ring) + 1, 10 ** 30, -10 ** 30):
                for step in (0, 1, 10 ** 30):
                    self.refuses(NoPlace(place), letter_at, ring, place, step)
                for steps in (0, 1, 300):
                    self.refuses(NoPlace(place), read, ring, place, steps)


class LooksOfRings(Case):
    def test_look_alike(self):
        for one, other, so in (
            ((1,), (1,), True), ((1,), (1, 1, 1), True), ((1,), (2,), False), ((1, 2), (2, 1), False),
            ((1, 2, 1, 2), (1, 2, 1, 2, 1, 2), True), ((1, 2), (1, 2, 1), False), ((1, 2, 2), (1, 2), False),
            (LONG, LONG[:10], True), (LONG, LONG[:20], True), (LONG, LONG[:15], False),
        ):
            self.gives(so, look_alike, one, other)

    def test_first_apart(self):
        self.gives(0, first_apart, (1,), (2,))
        self.gives(1, first_apart, (1,), (1, 2))
        self.gives(2, first_apart, (1, 1, 2), (1,))
        self.gives(59, first_apart, (1,) * 59 + (2,), (1,) * 60)
        self.gives(15, first_apart, LONG, LONG[:15])
        self.gives(117, first_apart, *latest_pair(59, 60))

    def test_none_apart(self):
        for one, other in (((1,), (1,)), ((2,), (2, 2)), ((1, 2, 1, 2), (1, 2, 1, 2, 1, 2)), (LONG, LONG[:10])):
            self.refuses(CanNot(), first_apart, one, other)
            self.refuses(CanNot(), first_apart, other, one)

    def test_alike_exactly_if_powers_of_one_word(self):
        for one in FEW_RINGS:
            for other in FEW_RINGS:
                alike = look_alike(one, other)
                self.same(alike, root(one)[0] == root(other)[0])
                self.same(alike, one + other == other + one)
                self.same(alike, read(one, 0, 60) == read(other, 0, 60))

    def test_apart_no_later_than_the_document_says(self):
        latest = set()
        for one in FEW_RINGS:
            for other in FEW_RINGS:
                if look_alike(one, other):
                    self.assertRaises(CanNot, first_apart, one, other)
                    continue
                step = first_apart(one, other)
                bound = len(one) + len(other) - math.gcd(len(one), len(other))
                self.assertLess(step, bound)
                self.same(read(one, 0, step), read(other, 0, step))
                self.assertNotEqual(letter_at(one, 0, step), letter_at(other, 0, step))
                if step == bound - 1:
                    latest.add((len(one), len(other)))
        self.assertLessEqual({(1, 1), (2, 3), (3, 5), (5, 3), (4, 5), (2, 4)}, latest)


def latest_pair(few, many):
    """Two RINGS of so many rooms, one more here than there, that part as late as can be."""
    return (1,) * (few - 1) + (2,), (1,) * (few - 1) + (2,) + (1,) * (many - few)


if __name__ == "__main__":
    unittest.main()
