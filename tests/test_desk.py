"""Point 21: a desk."""

import random
import re
import unittest

from roundtold.desk import desk, is_request
from roundtold.errors import BadText
from roundtold.few import walker_for
from roundtold.texts import question_told, read_ring, ring_told, walker_told
from tests import oracle
from tests.helper import Case
from tests.samples import FIRST, GREATEST, MADE, MUCH, ODD, ONE, RANKS, SIDE, SOME, TOO_LARGE, TOO_MUCH, TWO
from tests.test_judged import FLIP, PLAIN, SHUFFLER, SILENT, STANDS, is_lost, run

ASKS = ("room", "words", "said", "left", "answers", "sure", "come", "safe", "silent", "trap", "answer", "settles", "wrong")
NUMBERED = ("go", "begin", "may", "say", "plays")
WITH_TEXT = ("question", "ring", "walker")


def request(word, text):
    """A request with a text."""
    return word + "\n" + "\n".join(" " + line for line in text.split("\n"))


def script(*requests):
    return "\n".join(requests)


ASK_QUESTION = {own: request("question", question_told(own)) for own in (SOME, GREATEST, SIDE, RANKS, ONE, ODD, FIRST, TWO, MUCH, TOO_MUCH, TOO_LARGE)}
ASK_WALKER = {own: request("walker", walker_told(own)) for own in (PLAIN, FLIP, STANDS, SILENT, SHUFFLER, walker_for(GREATEST, 3))}


class Requests(Case):
    def test_is_request(self):
        for thing in ASKS + ("undo",):
            self.gives(True, is_request, thing)
            for own in (thing + " ", " " + thing, thing + " 1", thing + "\n", thing + "\n x", thing.upper(), thing + "s ", "\n" + thing, thing + "\n" + thing):
                self.gives(False, is_request, own)
        for word in NUMBERED:
            for number in ("0", "1", "10", "300", "999999", "123456"):
                self.gives(True, is_request, word + " " + number)
            for rest in ("", " ", "  1", " 01", " 00", " 1000000", " 0000001", " -1", " +1", " x", " 1 1", " 1 ", " 1.0", "1", " \u0661", "\t1", " 1\n x",
                         " 1\n", " 1_0"):
                self.gives(False, is_request, word + rest)
        for word in WITH_TEXT:
            for rest in ("\n ", "\n x", "\n  ", "\n a\n b", "\n \n \n ", "\n ring 1", "\n  ring 1", "\n question\n state 0 0"):
                self.gives(True, is_request, word + rest)
            for rest in ("", " ", " 1", "\n", "\nx", " \n x", "\n x\n", "\n x\ny", " x\n y", "\n\n x", "\n x\n\n y", " 1\n ring 1"):
                self.gives(False, is_request, word + rest)
        for thing in ("", " ", "\n", "go3", "go\n 3", "undo 1", "other", "say", "rooms", "plays", "walkers\n x", None, True, 1, ("room",), ["room"], (),
                      "room left", "room\rleft"):
            self.gives(False, is_request, thing)

    def test_bad_text(self):
        for text, line in (
            ("room\n\nleft", 2), ("\n", 1), ("room\n", 2), ("\nroom", 1), (" room", 1), (" ", 1), ("rooms", 1), ("room\nleft\nother", 3), ("room 1", 1),
            ("go", 1), ("go 01", 1), ("go 1000000", 1), ("go  1", 1), ("go 1 ", 1), ("say -1", 1), ("ring", 1), ("ring\nring 1", 1), ("room\n x", 1),
            ("go 1\n x", 1), ("left\nroom\n x\n y\nleft", 2), ("ring\n ring 1\n\n ring 1", 3), ("ring\n ring 1\nroom 2", 3), ("undo\nundo 1", 2),
            ("question\n x\n y\n z\nwalker", 5), ("room\nundo\n x", 2), ("room\r\nleft", 1), ("room\tleft", 1), ("ring 1\n ring 1", 1), ("walker \n x", 1),
            # Ahead of all that is refused.
            ("settles\nbegin 7\nother", 3), ("ring\n x\ny", 3), ("go 2\nend", 2), ("plays", 1), ("room\u2028left", 1), ("room\x0bleft", 1),
        ):
            self.refuses(BadText(line), desk, text)

    def test_nothing_is_asked(self):
        self.gives([], desk, "")


class AtFirst(Case):
    def test_at_first(self):
        self.gives(["0", "2", "-", "0 1", "0 1", "-", "2", "0", "yes", "0"], desk, script(*ASKS[:9], "answer"))
        self.gives(["refused CanNot"] * 5, desk, "settles\nwrong\nplays 0\nplays 5\nundo")

    def test_trap(self):
        for text, stretches, lots in (
            ("trap", ((),), (0,)), ("say 0\ntrap", ((),), (1,)), ("ring\n ring 1 2\ngo 2\ntrap", ((1, 2),), (1,)), ("ring\n ring 2 1 1\ngo 1\ntrap", ((2,),), (1,)),
            (ASK_QUESTION[SIDE] + "\nring\n ring 1 1 2\ngo 5\nbegin 2\ngo 2\ntrap", ((1, 1, 2, 1, 1), (2, 1)), (0,)),
            (ASK_QUESTION[SIDE] + "\nring\n ring 2 1\ngo 3\nsay 0\ntrap", ((2, 1, 2),), (1,)),
        ):
            question = SIDE if "question" in text else SOME
            reply = desk(text)[-1]
            ring = read_ring(2, reply)
            self.same(ring_told(ring), reply)
            self.assertTrue(oracle.may_be(stretches, ring))
            self.assertIn(oracle.lot_of_ring(question, ring), lots)
        self.gives(["done", "done", "done", "refused CanNot"], desk, "ring\n ring 2\ngo 1\nsay 1\ntrap")


class Deeds(Case):
    def test_question(self):
        for own in (SOME, GREATEST, SIDE, ONE, RANKS):
            # All else is as at first.
            ahead = script("ring\n ring 1 2", ASK_WALKER[PLAIN], "go 1", "begin 0", "may 9", "say 1", ASK_QUESTION[own])
            self.same(desk(script(ahead, "room", "words", "said", "settles", "answer", "come"))[7:],
                      ["0", "2", "-", "refused CanNot", str(oracle.answer(own, (1,))), str(oracle.to_come(own, ((),), None))])
        for own, name in ((TOO_MUCH, "TooMuch"), (TOO_LARGE, "TooMuch"), (ODD, "Unfit"), (FIRST, "Unfit"), (TWO, "Unfit"), (MUCH, "Unfit")):
            self.gives(["refused " + name, "0 1", "refused CanNot"], desk, script(ASK_QUESTION[own], "left", "undo"))
        for text in (" ", " question", " question\n state 0 1", " question\n state 0 0\n ", "  question\n state 0 0", " ring 1", " question\n  state 0 0"):
            self.gives(["refused BadText", "0"], desk, "question\n" + text + "\nroom")

    def test_ring(self):
        self.gives(["done", "done", "done", "done", "0", "1", "-", "2", "1"], desk,
                   "go 1\nbegin 0\nsay 1\nring\n ring 2 2\nroom\nwords\nsaid\ncome\nanswer")
        # Not what may be said, and not the WALKER.
        self.gives(["done", "done", "done", "7", "0"], desk, script("may 7", ASK_WALKER[PLAIN], "ring\n ring 1", "words", "settles"))
        for text in (" ", " ring", " ring 3", " ring 1 ", "  ring 1", " ring 1\n ring 1", " stretch 1", " ring 1\n "):
            self.gives(["refused BadText", "0", "refused CanNot"], desk, "ring\n" + text + "\nanswer\nundo")
        self.gives(["done", "done", "1"], desk, script(ASK_QUESTION[GREATEST], "ring\n ring 1 2", "answer"))
        self.gives(["done", "refused BadText", "7"], desk, script(ASK_QUESTION[ONE], "ring\n ring 1 2", "answer"))

    def test_walker(self):
        self.gives(["done", "0", "done", "1", "done", "-"], desk,
                   script(ASK_WALKER[PLAIN], "settles", "ring\n ring 2", "settles", ASK_WALKER[SILENT], "settles"))
        self.gives(["refused Unfit", "refused CanNot"], desk, script(ASK_WALKER[walker_for(GREATEST, 3)], "settles"))
        self.gives(["done", "done", "0"], desk, script(ASK_QUESTION[GREATEST], ASK_WALKER[walker_for(GREATEST, 3)], "settles"))
        # Behind the reader.
        self.gives(["refused BadText", "refused Unfit"], desk, "walker\n walker\n state - 0= 1=\nwalker\n walker\n state - 0=")
        self.gives(["done", "done", "refused Unfit", "refused CanNot"], desk,
                   script(ASK_WALKER[PLAIN], ASK_QUESTION[ONE], ASK_WALKER[PLAIN], "plays 1"))

    def test_go(self):
        self.gives(["done", "done", "1", "1", "done", "2", "1", "done", "0"], desk, "ring\n ring 2 1 1\ngo 1\nroom\nsure\ngo 1\nroom\nsure\ngo 298\nroom")
        self.gives(["done", "done", "0", "0 1", "done", "1"], desk, "ring\n ring 1 2\ngo 0\nroom\nleft\ngo 2\nleft")
        # All in a row is one WORD.
        self.gives(["done", "done", "done", "done", "done", "0"], desk,
                   script(ASK_QUESTION[SIDE], "ring\n ring 1 1 2 1 1", "go 2", "go 1", "go 2", "answer"))
        self.gives(["done", "done", "done", "done", "1"], desk, script(ASK_QUESTION[SIDE], "ring\n ring 1 2 2", "go 2", "go 1", "sure"))

    def test_begin(self):
        self.gives(["done", "done", "done", "0", "-", "done", "done", "-", "done", "1"], desk,
                   script(ASK_QUESTION[SIDE], "ring\n ring 2 1 1 2", "begin 0", "room", "sure", "go 1", "begin 3", "sure", "go 2", "sure"))
        self.gives(["refused NoPlace", "done", "refused NoPlace", "done", "1", "refused NoPlace", "1"], desk,
                   "begin 1\nring\n ring 1 2\nbegin 2\nbegin 1\nroom\nbegin 999999\nroom")
        # What each began is told apart: 2 and 1 were read, not 2 1.
        self.gives(["done", "done", "done", "done", "done", "0 1"], desk, script(ASK_QUESTION[SIDE], "ring\n ring 2 2", "go 1", "begin 1", "go 1", "answers"))

    def test_may_and_say(self):
        self.gives(["done", "1", "0", "done", "1", "1", "done", "0", "refused CanNot", "0", "2", "done", "0"], desk,
                   "say 0\nwords\nsaid\nsay 0\nwords\ncome\nsay 1\nwords\nsay 0\nwords\ncome\nsay 1\nwords")
        self.gives(["done", "refused CanNot", "-", "done", "done", "0"], desk, "may 0\nsay 5\nsaid\nmay 1\nsay 5\nwords")
        self.gives(["done", "999999", "done", "999998", "7"], desk, "may 999999\nwords\nsay 7\nwords\nsaid")
        self.gives(["done", "done", "done", "2", "done", "done", "0"], desk, "say 1\nmay 3\nsay 2\nwords\nsay 2\nmay 0\nwords")

    def test_safe_and_silent(self):
        for many, safe, silent in ((1, "-", "no"), (2, "-", "no"), (3, "0", "yes"), (4, "0 1", "yes")):
            self.gives(["done", "done", safe, silent], desk, script(ASK_QUESTION[GREATEST], f"may {many}", "safe", "silent"))

    def test_undo(self):
        self.gives(["done", "done", "done", "done", "2", "may", "say", "go", "ring", "refused CanNot", "0", "0 1"], desk,
                   "ring\n ring 1 2\ngo 2\nsay 1\nmay 2\nwords\nundo\nundo\nundo\nundo\nundo\nroom\nleft")
        # What is refused or only asked is no deed; said again is one.
        self.gives(["done", "refused NoPlace", "0", "done", "say", "0", "say", "-"], desk, "say 0\nbegin 9\nsaid\nsay 0\nundo\nsaid\nundo\nsaid")
        self.gives(["done", "go", "done", "go", "refused CanNot"], desk, "go 1\nundo\ngo 2\nundo\nundo")
        # All that was held ahead of a QUESTION is held again.
        self.gives(["done", "done", "done", "done", "done", "question", "1", "1", "1", "1", "begin", "0"], desk,
                   script("ring\n ring 1 2", ASK_WALKER[PLAIN], "say 1", "begin 1", ASK_QUESTION[GREATEST], "undo", "room", "words", "said", "settles", "undo", "room"))
        self.gives(["done", "walker", "refused CanNot"], desk, script(ASK_WALKER[PLAIN], "undo", "settles"))

    def test_walkers_are_played(self):
        self.gives(["done", "done", "-", "0", "1", "1", "done", "1", "1"], desk,
                   script(ASK_WALKER[PLAIN], "ring\n ring 1 2", "plays 0", "plays 1", "plays 2", "plays 300", "begin 1", "plays 1", "settles"))
        self.gives(["done", "done", "refused CanNot", "1", "ring 1 2"], desk, script(ASK_WALKER[FLIP], "ring\n ring 1 2", "settles", "plays 2", "wrong"))
        for own, reply in ((PLAIN, "refused CanNot"), (STANDS, "refused Unfit"), (SHUFFLER, "refused TooMuch"), (SILENT, "ring 1"), (FLIP, "ring 1 2")):
            self.same(desk(script(ASK_WALKER[own], "wrong")), ["done", reply])


class Model:
    """A desk as the table tells, by what is worked out slowly."""

    def __init__(self, question, ring):
        self.question, self.past = question, []
        self.now = (ring, 0, ((),), None, 2)

    def do(self, line):
        word, *number = line.split(" ")
        ring, room, stretches, said, many = self.now
        number = int(number[0]) if number else None
        if word == "undo":
            if not self.past:
                return "refused CanNot"
            told, self.now = self.past.pop()
            return told
        if word == "begin" and number >= len(ring):
            return "refused NoPlace"
        if word == "say" and number != said and many == 0:
            return "refused CanNot"
        after = {
            "go": lambda: (ring, (room + number) % len(ring), stretches[:-1]
                           + (stretches[-1] + tuple(ring[(room + step) % len(ring)] for step in range(number)),), said, many),
            "begin": lambda: (ring, number, stretches + ((),), said, many), "may": lambda: (ring, room, stretches, said, number),
            "say": lambda: (ring, room, stretches, number, many - (number != said)),
        }.get(word)
        if after:
            self.past.append((word, self.now))
            self.now = after()
            return "done"
        return self.ask(word, number)

    def ask(self, word, number):
        ring, room, stretches, said, many = self.now
        question = self.question
        left = oracle.lots_left(question, stretches)
        answers = sorted({oracle.answer_of_lot(question, lot) for lot in left})
        every = sorted({oracle.answer_of_lot(question, lot) for lot in oracle.firm(question)})
        silent = oracle.to_come(question, stretches, said) <= many
        told, _ = run(PLAIN, ring, room)
        value = {
            "room": room, "words": many, "said": said, "left": left, "answers": answers, "sure": answers[0] if len(answers) == 1 else None,
            "come": oracle.to_come(question, stretches, said), "answer": oracle.answer(question, ring), "settles": told[-1],
            "safe": [own for own in every if (oracle.to_come(question, stretches, own) + (own != said)) <= many],
            "silent": "yes" if silent else "no",
        }[word]
        return "-" if value is None or value == [] else " ".join(map(str, value)) if isinstance(value, list) else str(value)


class AsTheTableTells(Case):
    def test_many_requests(self):
        chance = random.Random(21)
        for question in (SOME, SIDE, MADE[1]):
            for ring in ((1, 1, 2), (2, 1), (1,), (1, 2, 2, 1), (2, 2)):
                lines = []
                for _ in range(60):
                    lines.append(chance.choice(("go 0", "go 1", "go 2", "begin 0", "begin 1", "begin 3", "may 0", "may 1", "may 3", "say 0", "say 1", "say 2",
                                                "undo", "undo", "room", "words", "said", "left", "answers", "sure", "come", "safe", "silent", "answer", "settles")))
                model = Model(question, ring)
                ahead = (request("question", question_told(question)), request("ring", ring_told(ring)), ASK_WALKER[PLAIN])
                model.past = [("question", None), ("ring", None), ("walker", None)]
                want = []
                for line in lines:
                    if line == "undo" and model.past[-1][1] is None:
                        line = "room"
                    lines[len(want)] = line
                    want.append(model.do(line))
                self.same(desk(script(*ahead, *lines)), ["done"] * 3 + want)

    def test_the_ring_that_is_wrong(self):
        for own in (PLAIN, FLIP, SILENT):
            reply = desk(script(ASK_WALKER[own], "wrong"))[-1]
            if reply == "refused CanNot":
                self.same(own, PLAIN)
            else:
                self.assertTrue(re.fullmatch("ring( [12])+", reply))
                self.assertTrue(is_lost(SOME, own, read_ring(2, reply), 0))


if __name__ == "__main__":
    unittest.main()
