"""The examples of the document, as they stand there."""

import importlib
import unittest

from tests.helper import Case

FILES = ("errors", "rings", "questions")

# Sections in the document's order: a name is that of the nearest example before it that sets it.
RINGS = """
    >>> ring = (2, 1, 1, 2)
    >>> turned(ring, 1), turned(ring, -1), turned(ring, 6), least_turned(ring), are_turned(ring, (1, 2, 2, 1)), are_turned(ring, (1, 2, 1, 2))
    ((1, 1, 2, 2), (2, 2, 1, 1), (1, 2, 2, 1), (1, 1, 2, 2), True, False)
    >>> root((1, 2, 1, 2)), root((1, 1, 1)), root(ring), letter_at(ring, 1, 10 ** 30), read(ring, 3, 6), read(ring, 0, 0)
    (((1, 2), 2), ((1,), 3), ((2, 1, 1, 2), 1), 1, (2, 2, 1, 1, 2, 2), ())
    >>> look_alike((1, 2), (1, 2, 1, 2)), look_alike((1, 2), (2, 1)), first_apart((1, 2), (2, 1)), first_apart((1, 1, 2), (1, 1))
    (True, False, 0, 2)
    >>> first_apart((1, 2), (1, 2, 1)), first_apart((1, 2, 1, 1, 2), (1, 2, 1)), are_turned((1, 2), (1, 2, 1, 2))
    (3, 6, False)
    >>> is_word(2, ()), is_ring(2, ()), is_ring(2, (1, 3)), is_ring(3, (1, 3)), is_ring(2, [1]), is_ring(2, (True,))
    (True, False, False, True, False, False)
    >>> read(ring, 4, 1)
    raises NoPlace(place=4)
    >>> first_apart((1, 2), (1, 2, 1, 2))
    raises CanNot()
"""

QUESTIONS = """
    >>> some, odd, first = (((0, 1), (1, 1)), (0, 1)), (((0, 1), (1, 0)), (0, 1)), (((1, 2), (1, 1), (2, 2)), (0, 1, 0))
    >>> twice, late = (((1, 2), (0, 2), (2, 2)), (0, 0, 1)), (((1, 2), (1, 2), (2, 2)), (5, 0, 1))
    >>> wide_of(some), state_after(first, (1, 2, 2)), answer(odd, (2, 1, 2)), answer(odd, (2, 1)), answer(late, (1,))
    (2, 1, 0, 1, 0)
    >>> least_question(twice) == some, least_question(late) == late, are_alike(late, some), are_alike(some, odd)
    (True, True, True, False)
    >>> parting(some, odd), parting(first, some), joined(some, odd)
    ((2, 2), (1,), (((0, 1), (1, 2), (2, 1)), (0, 11, 10)))
    >>> renamed(some, (3, 0)), turned_about(first), turned_about(twice) == some
    ((((0, 1), (1, 1)), (3, 0)), (((1, 0), (1, 0)), (0, 1)), True)
    >>> [is_question(own) for own in (some, (((0,),), (9,)), (((0, 0, 0, 0),), (0,)), (((1,),), (0,)), (((0, 0),), (0, 0)), (((0,),), (True,)), [((0,),), (0,)])]
    [True, True, False, False, False, False, False]
    >>> answer(some, ())
    raises Unfit()
    >>> parting(late, some)
    raises CanNot()
    >>> joined(some, (((0,),), (0,)))
    raises Unfit()
"""

SECTIONS = (RINGS, QUESTIONS)


class Examples(Case):
    def test_examples(self):
        names = {}
        for file in FILES:
            names.update(vars(importlib.import_module("roundtold." + file)))
        for text in SECTIONS:
            self.check_examples(text, names)


if __name__ == "__main__":
    unittest.main()
