"""Point 19: texts."""

import itertools
import unittest

from roundtold.errors import BadText
from roundtold.fog import is_fog
from roundtold.questions import is_question
from roundtold.rings import is_ring, is_word
from roundtold.texts import (
    fog_told, promise_told, question_told, read_fog, read_promise, read_question, read_ring, read_stretches, read_walker,
    ring_told, stretches_told, walker_told,
)
from roundtold.walkers import is_walker
from tests.helper import Case, questions_of, words_to
from tests.samples import BOTH, COUNTED, GREATEST, LARGE, MADE, ODD, ONE, ONE_WIDE, OPEN, SIDE, SOME

LAZY = ((((0, -1), (1, 0)), ((1, 1), (0, 1))), (None, 3))
ALONE = ((((0, 0),),), (None,))
GREAT = 10 ** 12 - 1
SIGNS = "0123456789 -<>=\nabcx"


def bad(line):
    return BadText(line)


def changed(text, signs):
    """All texts with one sign less, or another one, or one more."""
    for at in range(len(text) + 1):
        yield text[:at] + text[at + 1:]
        for sign in signs:
            yield text[:at] + sign + text[at:]
            yield text[:at] + sign + text[at + 1:]


class Told(Case):
    def test_told(self):
        for function, value, want in (
            (ring_told, (1, 2, 2), "ring 1 2 2"), (ring_told, (3,), "ring 3"), (stretches_told, ((1,), ()), "stretch 1\nstretch"),
            (stretches_told, ((),), "stretch"), (stretches_told, ((), (3, 2, 1), ()), "stretch\nstretch 3 2 1\nstretch"),
            (question_told, SOME, "question\nstate 0 0 1\nstate 1 1 1"), (question_told, ONE, "question\nstate 7 0"),
            (question_told, ((((0, 0, 0),)), (GREAT,)), "question\nstate 999999999999 0 0 0"),
            (walker_told, LAZY, "walker\nstate - 0< 1=\nstate 3 1> 0>"), (walker_told, ALONE, "walker\nstate - 0="),
            (promise_told, (SOME, (0, 1)), "promise 0 1\nquestion\nstate 0 0 1\nstate 1 1 1"),
            (promise_told, (ONE, (GREAT,)), "promise 999999999999\nquestion\nstate 7 0"), (fog_told, (1, 2, 1), "fog 1 2 1"), (fog_told, (1,), "fog 1"),
        ):
            self.gives(want, function, value)

    def test_read(self):
        for function, args, want in (
            (read_ring, (2, "ring 2 1"), (2, 1)), (read_ring, (3, "ring 3"), (3,)), (read_stretches, (1, "stretch"), ((),)),
            (read_stretches, (2, "stretch 2 2\nstretch\nstretch 1"), ((2, 2), (), (1,))), (read_question, ("question\nstate 0 0 1\nstate 1 1 1",), SOME),
            (read_question, ("question\nstate 999999999999 0 0 0",), (((0, 0, 0),), (GREAT,))), (read_walker, (walker_told(LAZY),), LAZY),
            (read_walker, ("walker\nstate - 0=",), ALONE), (read_promise, ("promise 1\nquestion\nstate 7 0",), (ONE, (1,))),
            (read_promise, ("promise 0 5 999999999999\nquestion\nstate 0 0 1\nstate 1 1 0",), (ODD, (0, 5, GREAT))), (read_fog, ("fog 2 1",), (2, 1)),
            (read_fog, ("fog 1",), (1,)), (read_fog, ("fog 2 2 1",), (2, 2, 1)), (read_ring, (1, "ring" + " 1" * 60), (1,) * 60),
            (read_stretches, (1, "\n".join(["stretch"] * 9)), ((),) * 9),
        ):
            self.gives(want, function, *args)

    def test_what_is_told_is_read(self):
        for wide in (1, 2, 3):
            for word in words_to(wide, 4, 1):
                self.same(read_ring(wide, ring_told(word)), word)
                self.same(read_stretches(wide, stretches_told((word, (), word[1:]))), (word, (), word[1:]))
        for question in [*questions_of(2, 2, 2), *questions_of(2, 1, 3), *OPEN, *MADE, COUNTED, LARGE]:
            self.same(read_question(question_told(question)), question)
            self.same(read_promise(promise_told((question, (0, 3, 10 ** 6)))), (question, (0, 3, 10 ** 6)))
        pairs = list(itertools.product((0, 1), (-1, 0, 1)))
        for rows in itertools.islice(itertools.product(pairs, repeat=4), 0, None, 5):
            walker = (rows[:2], rows[2:]), (None, 12)
            self.same(read_walker(walker_told(walker)), walker)
        for fog in ((1,), (1, 1), (1, 2), (2, 1), (1, 1, 1), (2, 1, 2), (3, 1, 2)):
            self.same(read_fog(fog_told(fog)), fog)


class Bad(Case):
    def check_all(self, function, cases, *ahead):
        for text, line in cases:
            self.refuses(bad(line), function, *ahead, text)

    def test_ring(self):
        self.check_all(read_ring, (
            ("", 1), ("ring", 1), ("ring 1 3", 1), ("ring 0", 1), ("ring 1\n", 2), ("ring 1\nring 1", 2), ("\nring 1", 1), ("ring 1 ", 1),
            (" ring 1", 1), ("ring  1", 1), ("Ring 1", 1), ("rings 1", 1), ("ring1", 1), ("ring 01", 1), ("ring 1\t2", 1), ("ring 1\r", 1),
            ("ring +1", 1), ("ring -1", 1), ("ring 1,2", 1), ("ring x", 1), ("stretch 1", 1), ("ring 1 ring", 1), ("ring 1.", 1), ("ring 1_1", 1),
            ("ring \u0661", 1), ("ring \u00b2", 1), ("ring 1\x0c", 1), ("ring 1\u20282", 1), ("ring 3\n", 1), ("ring\n1", 1), ("\n", 1), (" ", 1),
            ("ring 1000000000001", 1), ("ring 1\n\n", 2), ("ring 2 1 <", 1),
        ), 2)
        self.refuses(bad(1), read_ring, 1, "ring 2")
        self.refuses(bad(1), read_ring, 3, "ring 4")

    def test_stretches(self):
        self.check_all(read_stretches, (
            ("", 1), ("stretch 3", 1), ("stretch 1\nstretch 3\nstretch", 2), ("stretch\n", 2), ("stretch 1\n\nstretch 1", 2), ("stretch ", 1),
            ("stretch 1\nring 1", 2), ("stretch 1\nstretch  1", 2), ("stretch 1\n stretch", 2), ("stretch 1\nstretch 1\nstretch 0", 3),
            ("\nstretch", 1), ("stretch\nstretch\n\n", 3), ("stretch 1 stretch 1", 1), ("stretch 01", 1), ("stretches 1", 1),
        ), 2)

    def test_question(self):
        self.check_all(read_question, (
            ("", 1), ("question", 2), ("question\n", 2), ("question\nstate 0 0 2\nstate 1 1 1", 4), ("question\nstate 0 1", 3), ("question\nstate 0", 2),
            ("question\nstate", 2), ("question\nstate 0 0 0 0 0", 2), ("question\nstate 0 0 1\nstate 1 1", 3), ("question\nstate 0 1\nstate 1 1 1", 3),
            ("question\nstate 0 0\nstate 0 0\n", 4), ("question\n\nstate 0 0", 2), ("question 1\nstate 0 0", 1), ("question \nstate 0 0", 1),
            ("state 0 0", 1), ("Question\nstate 0 0", 1), ("question\nstates 0 0", 2), ("question\nstate - 0", 2), ("question\nstate 0 0>", 2),
            ("question\nstate 0 00", 2), ("question\nstate 00 0", 2), ("question\nstate 0 01", 2), ("question\nstate 0  0", 2),
            ("question\nstate 0 0 ", 2), ("question\n state 0 0", 2), ("question\nstate 1000000000000 0", 2), ("question\nstate 0 999999999999", 3),
            ("question\nstate 0 1\nstate 0 3", 4), ("question\nstate 0 0\nquestion", 3), ("question\nstate -1 0", 2), ("question\nstate 0 -1", 2),
            ("question\nstate 0 1 1\nstate 0 2 2\nstate 0 3 3\nstate x 0 0", 5), ("walker\nstate 0 0", 1), ("question\nstate 0 0\nstate 0 0\nstate 0 3", 5),
            ("question\nstate 0 1\nstate 0 1\nstate 0 0 0", 4), ("question\nstate 0 \u0660", 2),
        ))

    def test_walker(self):
        self.check_all(read_walker, (
            ("", 1), ("walker", 2), ("walker\nstate 0 0>\nstate 0 0", 3), ("walker\nstate 0 1>", 3), ("walker\nstate 0 0>\n", 3), ("walker\nstate - 0", 2),
            ("walker\nstate -", 2), ("walker\nstate 0 >", 2), ("walker\nstate 0 >0", 2), ("walker\nstate 0 0>>", 2), ("walker\nstate 0 0 >", 2),
            ("walker\nstate 0 0> 0", 2), ("walker\nstate -- 0>", 2), ("walker\nstate 0 0> 0> 0> 0>", 2), ("walker\nstate 0 0> 0>\nstate 0 0>", 3),
            ("walker\nstate 0 0-", 2), ("walker\nstate 0 00>", 2), ("walker\nstate 0 01=", 2), ("walker\nstate 0 -0>", 2), ("walker\nstate 0 -", 2),
            ("walker\nstate 0 1000000000000>", 2), ("walker\nstate 1000000000000 0>", 2), ("walker\nstate 0 999999999999>", 3),
            ("walker >\nstate 0 0>", 1), ("walkers\nstate 0 0>", 1), ("question\nstate 0 0>", 1), ("walker\nstate 0 2>\nstate 0 0>", 4),
            ("walker\nstate None 0>", 2), ("walker\nstate 0 0> ", 2), ("walker\n\nstate 0 0>", 2), ("walker\nstate 0 0<=", 2), ("walker\nstate 0 =", 2),
        ))

    def test_promise(self):
        self.check_all(read_promise, (
            ("", 1), ("promise", 1), ("promise 1", 2), ("promise 1\nquestion", 3), ("promise 1 0\nquestion\nstate 0 0", 1), ("promise 1 1\nquestion\nstate 0 0", 1),
            ("promise\nquestion\nstate 0 0", 1), ("promise 1\nstate 0 0", 2), ("promise 1\nquestion\nstate 0 1", 4), ("promise 1\nquestion\nstate 0 0\n", 4),
            ("promise 1\n\nquestion\nstate 0 0", 2), ("promise 01\nquestion\nstate 0 0", 1), ("promise -\nquestion\nstate 0 0", 1),
            ("promise 1 1000000000000\nquestion\nstate 0 0", 1), ("question\nstate 0 0", 1), ("promise 0 2 1\nquestion\nstate 0 0", 1),
            ("promise 1 \nquestion\nstate 0 0", 1), ("promise 1\nquestion\nstate 0 0 0 0 0", 3), ("promise 1\npromise 1\nquestion\nstate 0 0", 2),
        ))

    def test_fog(self):
        self.check_all(read_fog, (
            ("", 1), ("fog", 1), ("fog 2", 1), ("fog 1 3", 1), ("fog 1 3 3", 1), ("fog 0 1", 1), ("fog 1 1 1 1", 1), ("fog 1 2 3 4", 1), ("fog 1\n", 2),
            ("fog 1\nfog 1", 2), ("fog 01", 1), ("fog 1 x", 1), ("fog  1", 1), ("fog 1 ", 1), ("Fog 1", 1), ("ring 1", 1), ("fog -", 1), ("fog 2 2", 1),
            ("fog 3\n", 1), ("\nfog 1", 1),
        ))

    def test_twelve_figures(self):
        for text, so in (("question\nstate 999999999999 0", True), ("question\nstate 1000000000000 0", False), ("question\nstate 100000000000 0", True),
                         ("question\nstate 000000000000 0", False)):
            if so:
                self.gives(text, lambda text: question_told(read_question(text)), text)
            else:
                self.refuses(bad(2), read_question, text)


class OnlyThese(Case):
    """A reader takes no text but what is written of a value; the line that it tells has all ahead of it in order."""

    def check(self, read, told, is_value, text):
        try:
            value = read(text)
        except BadText as error:
            lines = text.split("\n") if text else []
            self.assertTrue(1 <= error.line <= len(lines) + 1)
            # What is ahead of this line alone is bad only as it ends: nothing in it is.
            for many in range(1, error.line):
                self.assertEqual(self.line_of(read, "\n".join(lines[:many])) or many + 1, many + 1)
            # What is behind this line does not matter.
            if error.line <= len(lines):
                self.assertEqual(self.line_of(read, "\n".join(lines[:error.line])), error.line)
            return
        self.assertTrue(is_value(value))
        self.assertEqual(told(value), text)

    def line_of(self, read, text):
        """The line that is told; None if the text reads."""
        try:
            read(text)
        except BadText as error:
            return error.line
        return None

    def test_changed_texts(self):
        for read, told, is_value, texts in (
            (lambda text: read_ring(2, text), ring_told, lambda own: is_ring(2, own), ("ring 1 2", "ring 2")),
            (lambda text: read_stretches(2, text), stretches_told, lambda own: own and all(is_word(2, word) for word in own), ("stretch 1\nstretch", "stretch")),
            (read_question, question_told, is_question, ("question\nstate 0 0 1\nstate 1 1 1", "question\nstate 7 0", question_told(ODD))),
            (read_walker, walker_told, is_walker, (walker_told(LAZY), "walker\nstate - 0=")),
            (read_promise, promise_told, lambda own: is_question(own[0]) and own[1] == tuple(sorted(set(own[1]))) and own[1],
             ("promise 0 1\nquestion\nstate 0 0 1\nstate 1 1 1", "promise 2 3\nquestion\nstate 7 0")),
            (read_fog, fog_told, lambda own: is_fog(len(own), own) and len(own) < 4, ("fog 1 2 1", "fog 2 1")),
        ):
            for text in texts:
                for own in changed(text, SIGNS):
                    self.check(read, told, is_value, own)

    def test_all_short_rings(self):
        for size in range(4):
            for signs in itertools.product("0123 \nx", repeat=size):
                text = "ring" + "".join(signs)
                want = {ring_told(ring): ring for ring in words_to(2, 2, 1)}
                self.same(self.line_of(lambda own: read_ring(2, own), text) is None, text in want)

    def test_told_again(self):
        for question in (SOME, GREATEST, SIDE, BOTH, ONE_WIDE):
            self.same(question_told(read_question(question_told(question))), question_told(question))


if __name__ == "__main__":
    unittest.main()
