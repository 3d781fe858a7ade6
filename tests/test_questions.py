"""Point 5: questions."""

import itertools
import unittest

from roundtold.errors import CanNot, Unfit
from roundtold.questions import (
    answer, are_alike, is_question, joined, least_question, parting, renamed, state_after, turned_about, wide_of,
)
from tests.helper import Case, words_to
from tests.samples import (
    COUNTED, FIRST, GREATEST, LATE, LOST, MIDDLE, ODD, ONE, ONE_WIDE, ROUND, SECOND, SIDE, SIX_STATES, SMALL, SOME,
)

NO_QUESTIONS = (
    None, True, 0, 7, "", "ab", (), [], ((),), ((), ()), ((), (0,)), (((),), (0,)), (((), ()), (0, 1)), ("a", "b"),
    # Lists for tuples.
    [((0,),), (0,)], ([(0,)], (0,)), (([0],), (0,)), (((0,),), [0]), [[[0]], [0]], (((0, 0), [0, 1]), (0, 0)),
    # More or less than a pair.
    (((0,),),), (((0,),), (0,), ()), (((0,),), (0,), (0,)),
    # Not as many answers as STATES.
    (((0,),), ()), (((0,),), (0, 0)), (((0, 1), (1, 1)), (0,)), (((0, 1), (1, 1)), (0, 1, 1)),
    # Too many letters, or not equally many.
    (((0, 0, 0, 0),), (0,)), (((0, 0), (1,)), (0, 0)), (((0,), (1, 1)), (0, 0)), (((0, 0), ()), (0, 0)),
    # No such STATES.
    (((1,),), (0,)), (((-1,),), (0,)), (((0, 1), (1, 2)), (0, 0)), (((0, 10 ** 30), (1, 1)), (0, 0)),
    # No numbers.
    (((False,),), (0,)), (((0, True), (1, 1)), (0, 0)), (((0, None), (1, 1)), (0, 0)), ((("0",),), (0,)),
    ((((),),), (0,)), ((0,), (0,)), (("0",), (0,)), ((None,), (0,)), (((0, 1), 1), (0, 0)), (((0, 1), "01"), (0, 0)),
    # No ANSWERS.
    (((0,),), (-1,)), (((0,),), (True,)), (((0,),), (None,)), (((0,),), ("0",)), (((0,),), ((0,),)), (((0,),), 0),
    (((0,),), "0"), (((0, 1), (1, 1)), (0, False)), (((0, 1), (1, 1)), (0, -10 ** 30)), (((0,),), None),
)


def answers_of(question, words):
    """The answers, found without the functions that are tested."""
    found = []
    for word in words:
        state = 0
        for letter in word:
            state = question[0][state][letter - 1]
        found.append(question[1][state])
    return found


def least_by_words(question):
    """The least QUESTION, made of the WORDS that each STATE tells from others."""
    wide, many = len(question[0][0]), len(question[0])
    tails = words_to(wide, many - 1)
    kinds, rows = [], []
    words = words_to(wide, many)
    marks = {word: answers_of(question, [word + tail for tail in tails]) for word in words}
    heads = []
    for word in words_to(wide, many - 1):
        if marks[word] not in kinds:
            kinds.append(marks[word])
            heads.append(word)
    for word in heads:
        rows.append(tuple(kinds.index(marks[word + (letter,)]) for letter in range(1, wide + 1)))
    return tuple(rows), tuple(answers_of(question, heads))


def flawed(question):
    """Whether a few WORDS show that it is not open to walkers."""
    words = words_to(len(question[0][0]), 3, 1)
    turns = [(first + second, second + first) for first, second in itertools.combinations(words, 2)]
    powers = [(word, word * many) for word in words for many in (2, 3, 4)]
    return any(here != there for here, there in (answers_of(question, pair) for pair in turns + powers))


def unlike_words(one, other):
    """The WORDS, not (), that are answered unlike, of as many letters as parting may have."""
    words = words_to(len(one[0][0]), len(one[0]) + len(other[0]) - 1, 1)
    return [word for word, here, there in zip(words, answers_of(one, words), answers_of(other, words)) if here != there]


class Things(Case):
    def test_questions(self):
        for own in [ONE, ONE_WIDE, SOME, ODD, FIRST, LATE, GREATEST] + SIX_STATES + SMALL + MIDDLE:
            self.gives(True, is_question, own)

    def test_no_questions(self):
        for thing in NO_QUESTIONS:
            self.gives(False, is_question, thing)

    def test_of_any_size(self):
        many = 2000
        steps = tuple(((state + 1) % many, 0, many - 1) for state in range(many))
        self.gives(True, is_question, (steps, tuple(range(many))))
        self.gives(True, is_question, (((0, 0),), (10 ** 30,)))
        self.gives(False, is_question, (steps[:-1] + ((0, 0, many),), tuple(range(many))))
        self.gives(False, is_question, (steps, tuple(range(many - 1)) + (-1,)))
        self.gives(False, is_question, (steps, tuple(range(many - 1))))

    def test_nested_deep(self):
        for build in (tuple, list):
            thing = build()
            for _ in range(96):
                thing = build((thing,))
            for own in (thing, build((thing, (0,))), (thing, thing), (((thing,),), (0,)), (((0,),), (thing,)),
                        (((0,),), thing), build((build((build((build((thing,)),)),)),))):
                self.gives(False, is_question, own)


class Answering(Case):
    def test_wide_of(self):
        for own, wide in ((ONE, 1), (ONE_WIDE, 3), (SOME, 2), (FIRST, 2), (GREATEST, 3), (COUNTED, 1), (SIDE, 2)):
            self.gives(wide, wide_of, own)

    def test_state_after(self):
        for own, word, state in (
            (ONE, (), 0), (ONE, (1,) * 60, 0), (SOME, (), 0), (SOME, (1, 1), 0), (SOME, (1, 2, 1), 1),
            (FIRST, (2,), 2), (FIRST, (1, 2), 1), (GREATEST, (3, 1), 2), (COUNTED, (1,) * 4, 4), (COUNTED, (1,) * 60, 5),
            (ROUND, (1,) * 59, 5), (SIDE, (2, 1, 2), 3), (SIDE, (1, 2, 2, 1), 5), (LOST, (1, 2), 2), (LOST, (1, 1), 5),
        ):
            self.gives(state, state_after, own, word)

    def test_answer(self):
        for own, word, told in (
            (ONE, (1,), 7), (SOME, (1, 1), 0), (SOME, (1, 2, 1), 1), (ODD, (2, 2), 0), (FIRST, (1, 2), 1), (LATE, (1,), 0),
            (GREATEST, (1, 2, 1), 1), (GREATEST, (3, 2), 0), (COUNTED, (1,) * 5, 9), (COUNTED, (1,) * 4, 4),
            (ROUND, (1,) * 59, 1), (ROUND, (1,) * 60, 0), (SIDE, (2, 1, 2), 1), (LOST, (1, 1), 0), (LOST, (2,), 1),
        ):
            self.gives(told, answer, own, word)

    def test_the_empty_word_has_no_answer(self):
        for own in (ONE, ONE_WIDE, SOME, LATE, SIDE):
            self.refuses(Unfit(), answer, own, ())

    def test_letter_by_letter(self):
        for own in SMALL + MIDDLE + SIX_STATES:
            words = words_to(len(own[0][0]), 4, 1)
            self.same([answer(own, word) for word in words], answers_of(own, words))
            for word in words:
                before = state_after(own, word[:-1])
                self.same(state_after(own, word), own[0][before][word[-1] - 1])


class Least(Case):
    def test_least_question(self):
        for own in (ONE, ONE_WIDE, SOME, ODD, FIRST, LATE, GREATEST, COUNTED, ROUND):
            self.gives(own, least_question, own)
        self.gives((((1, 2), (1, 3), (4, 5), (1, 5), (4, 2), (5, 5)), (0, 0, 1, 0, 0, 1)), least_question, SIDE)
        self.gives(SOME, least_question, (((1, 2), (0, 2), (2, 2)), (0, 0, 1)))
        self.gives((((1, 1), (0, 1)), (0, 1)), least_question, LOST)
        self.gives((((0,),), (4,)), least_question, (((1,), (2,), (3,), (4,), (5,), (3,)), (4,) * 6))
        self.gives((((1,), (0,)), (4, 2)), least_question, (((1,), (2,), (3,), (4,), (5,), (0,)), (4, 2) * 3))

    def test_states_are_numbered_as_they_are_first_come_to(self):
        self.gives(FIRST, least_question, (((2, 1), (1, 1), (2, 2)), (0, 0, 1)))
        self.gives((((1, 2, 0), (1, 1, 3), (2, 2, 2), (3, 3, 0)), (0, 1, 2, 3)), least_question,
                   (((3, 1, 0), (1, 1, 1), (2, 2, 0), (3, 3, 2)), (0, 2, 3, 1)))

    def test_the_answer_of_the_empty_word_counts(self):
        self.gives(LATE, least_question, LATE)
        self.gives((((1,), (1,)), (1, 0)), least_question, (((2,), (0,), (2,)), (1, 5, 0)))

    def test_states_that_part_late(self):
        # The five first STATES part at the fifth letter alone.
        late = (((1,), (2,), (3,), (4,), (5,), (5,)), (0, 0, 0, 0, 0, 1))
        self.gives(late, least_question, late)

    def test_as_its_words_tell(self):
        for own in SMALL + MIDDLE + [SIDE, COUNTED, ROUND, LOST]:
            self.gives(least_by_words(own), least_question, own)

    def test_same_answers_exactly_if_one_least_question(self):
        for one in SMALL:
            for other in SMALL:
                words = words_to(2, 3)
                same = answers_of(one, words) == answers_of(other, words)
                self.same(least_question(one) == least_question(other), same)


class Alike(Case):
    def test_are_alike(self):
        for one, other, so in (
            (SOME, SOME, True), (SOME, ODD, False), (LATE, SOME, True), (SOME, LATE, True), (ONE, COUNTED, False),
            (COUNTED, ROUND, False), (SIDE, SIDE, True), (SIDE, SOME, False), (GREATEST, ONE_WIDE, False),
            ((((0,),), (1,)), (((1,), (2,), (1,)), (3, 1, 1)), True), (LOST, (((1, 1), (0, 1)), (0, 1)), True),
            ((((0,),), (1,)), (((1,), (0,)), (3, 1)), False),
        ):
            self.gives(so, are_alike, one, other)

    def test_parting(self):
        for one, other, word in (
            (SOME, ODD, (2, 2)), (FIRST, SOME, (1,)), (ONE, COUNTED, (1,)), (COUNTED, ROUND, (1,)), (SIDE, SOME, (1, 2)),
            (GREATEST, ONE_WIDE, (2,)), (ONE_WIDE, GREATEST, (2,)), (LOST, SOME, (1,)),
            (ROUND, (((0,),), (0,)), (1,) * 5), ((((0,),), (1,)), (((1,), (0,)), (3, 1)), (1, 1)),
            (SOME, (((0, 1), (2, 1), (2, 2)), (0, 1, 0)), (2, 1)),
        ):
            self.gives(word, parting, one, other)

    def test_parting_as_late_as_can_be(self):
        # Of six and five STATES: 1 is told by 5 and by 11 letters there, by 5 and by 10 here.
        five = (((1,), (2,), (3,), (4,), (0,)), (1, 0, 0, 0, 0))
        self.gives((1,) * 10, parting, ROUND, five)
        self.gives((1,) * 10, parting, five, ROUND)
        self.gives((1,) * 5, parting, (ROUND[0], (1, 0, 0, 0, 0, 0)), five)
        self.gives((1,) * 6, parting, (((1,), (2,), (3,), (4,), (5,), (5,)), (0, 0, 0, 0, 0, 9)),
                   (((1,), (2,), (3,), (4,), (5,), (0,)), (0, 0, 0, 0, 0, 9)))

    def test_never_parting(self):
        for one, other in ((SOME, SOME), (LATE, SOME), (SOME, LATE), (SIDE, SIDE), (ONE, (((1,), (0,)), (7, 7)))):
            self.refuses(CanNot(), parting, one, other)

    def test_as_all_words_tell(self):
        for own in (SMALL, MIDDLE[::7]):
            for one in own:
                for other in own[::3]:
                    if len(one[0][0]) != len(other[0][0]):
                        continue
                    words = unlike_words(one, other)
                    self.same(are_alike(one, other), words == [])
                    if words:
                        self.same(parting(one, other), words[0])
                    else:
                        self.assertRaises(CanNot, parting, one, other)

    def test_parting_has_fewer_letters_than_both_states(self):
        for one in SMALL:
            for other in SMALL:
                if not are_alike(one, other):
                    self.assertLessEqual(len(parting(one, other)), len(one[0]) + len(other[0]) - 1)

    def test_unlike_many_letters(self):
        for function in (are_alike, parting, joined):
            for one, other in itertools.permutations((ONE, SOME, GREATEST), 2):
                self.refuses(Unfit(), function, one, other)
            # Also where no answers part, and where they part at once.
            self.refuses(Unfit(), function, (((0,),), (0,)), (((0, 0),), (0,)))
            self.refuses(Unfit(), function, (((0, 0, 0),), (0,)), (((0, 0),), (1,)))


class Made(Case):
    def test_joined(self):
        for one, other, want in (
            (SOME, ODD, (((0, 1), (1, 2), (2, 1)), (0, 11, 10))),
            (ODD, SOME, (((0, 1), (1, 2), (2, 1)), (0, 11, 1))),
            (ONE, ONE, (((0,),), (77,))), (ONE, COUNTED, (COUNTED[0], (70, 71, 72, 73, 74, 79))),
            (LATE, SOME, (LATE[0], (50, 0, 11))), (SOME, LATE, (LATE[0], (5, 0, 11))),
            (GREATEST, ONE_WIDE, (GREATEST[0], (0, 10, 0))),
        ):
            self.gives(want, joined, one, other)

    def test_joined_answers_both(self):
        for own in (SMALL, MIDDLE[:158:7], MIDDLE[158::3]):
            for one in own[::2]:
                for other in own[::3]:
                    words = words_to(len(one[0][0]), 5)
                    got = joined(one, other)
                    pairs = zip(answers_of(one, words), answers_of(other, words))
                    self.same(answers_of(got, words), [10 * first + second for first, second in pairs])
                    self.same(least_question(got), got)

    def test_joined_again(self):
        got = joined(joined(SOME, ODD), joined(FIRST, SIDE))
        words = words_to(2, 6)
        told = [answers_of(own, words) for own in (SOME, ODD, FIRST, SIDE)]
        want = [10 * (10 * a + b) + 10 * c + d for a, b, c, d in zip(*told)]
        self.same(answers_of(got, words), want)

    def test_renamed(self):
        self.gives((SOME[0], (3, 0)), renamed, SOME, (3, 0))
        self.gives((SOME[0], (4, 4)), renamed, SOME, (4, 4, 9))
        self.gives((((0,),), (2,)), renamed, ONE, (1, 1, 1, 1, 1, 1, 1, 2))
        self.gives((LATE[0], (6, 9, 8)), renamed, LATE, (9, 8, 0, 0, 0, 6))
        self.gives((LOST[0], (1, 7, 0, 8, 8, 1)), renamed, LOST, (1, 0, 0, 0, 0, 0, 0, 0, 7, 8))
        self.gives((FIRST[0], (1, 1, 1)), renamed, FIRST, (1, 1))

    def test_no_place_for_an_answer(self):
        self.refuses(Unfit(), renamed, SOME, (3,))
        self.refuses(Unfit(), renamed, SOME, ())
        self.refuses(Unfit(), renamed, ONE, (0,) * 7)
        # The ANSWER of () and those of STATES that are never come to stand there too.
        self.refuses(Unfit(), renamed, LATE, (0, 1))
        self.refuses(Unfit(), renamed, LOST, (0, 1))
        self.refuses(Unfit(), renamed, LOST, (0,) * 9)

    def test_turned_about(self):
        self.gives((((1, 0), (1, 0)), (0, 1)), turned_about, FIRST)
        self.gives(SOME, turned_about, SOME)
        self.gives(ODD, turned_about, ODD)
        self.gives(SOME, turned_about, (((1, 2), (0, 2), (2, 2)), (0, 0, 1)))
        for own in (ONE, ONE_WIDE, LATE, GREATEST, COUNTED, ROUND):
            self.gives(own, turned_about, own)
        # The letter behind the first one, and that ahead of the last one, is 2.
        self.gives((((0, 1), (2, 3), (0, 1), (2, 3)), (0, 0, 1, 1)), turned_about, SECOND)

    def test_turned_about_reads_from_the_end(self):
        for own in SMALL + MIDDLE + [SIDE, LOST, FIRST]:
            words = words_to(len(own[0][0]), 5)
            got = turned_about(own)
            self.same(answers_of(got, words), answers_of(own, [word[::-1] for word in words]))
            self.same(least_question(got), got)

    def test_turned_about_twice(self):
        for own in SMALL + MIDDLE + SIX_STATES + [LATE, GREATEST]:
            self.gives(least_question(own), turned_about, turned_about(own))

    def test_open_to_walkers_as_what_they_are_made_of(self):
        free = [own for own in SMALL if not flawed(own)]
        self.assertLess(4, len(free))
        self.assertLess(len(free), len(SMALL))
        for own in free + [SIDE, GREATEST]:
            self.assertFalse(flawed(turned_about(own)))
            for answers in ((0, 5), (3, 1), (2, 2)):
                self.assertFalse(flawed(renamed(own, answers)))
        for one in free + [SIDE]:
            for other in free + [SIDE]:
                self.assertFalse(flawed(joined(one, other)))


if __name__ == "__main__":
    unittest.main()
