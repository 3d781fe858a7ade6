"""What the tests share: strict comparison, calls in every way that the document allows, the examples' reader."""

import ast
import copy
import inspect
import itertools
import unittest


def listed(value):
    """value with lists for tuples, at any depth."""
    if isinstance(value, (tuple, list)):
        return [listed(part) for part in value]
    return value


def listed_outside(value):
    """value with a list for the outermost tuple alone."""
    return list(value) if isinstance(value, tuple) else value


def listed_inside(value):
    """value with lists for all tuples but the outermost one."""
    return tuple(listed(part) for part in value) if isinstance(value, tuple) else value


def words_to(wide, most, least=0):
    """All WORDS of letters to wide, of least to most letters, shorter ones first."""
    letters = range(1, wide + 1)
    return [word for size in range(least, most + 1) for word in itertools.product(letters, repeat=size)]


def questions_of(many, wide, answers):
    """All QUESTIONS of so many STATES, letters, ANSWERS."""
    rows = list(itertools.product(range(many), repeat=wide))
    for steps in itertools.product(rows, repeat=many):
        for told in itertools.product(range(answers), repeat=many):
            yield steps, told


def parsed_examples(text):
    """The pairs (code, expected) of an indented block of >>> lines."""
    pairs = []
    for line in text.strip().splitlines():
        line = line.strip()
        if line.startswith(">>> "):
            pairs.append((line[4:], []))
        elif line:
            pairs[-1][1].append(line)
    return [(code, "\n".join(lines)) for code, lines in pairs]


class Case(unittest.TestCase):
    def same(self, got, want):
        """As equal as repr is: True is not 1, a list is no tuple."""
        self.assertEqual(repr(got), repr(want))

    def same_error(self, got, want):
        self.assertIs(got.__class__, want.__class__)
        self.same(vars(got), vars(want))

    def call_in_all_ways(self, function, args, check):
        """Calls by place and by name, with tuples and with lists; each argument must stay as it was."""
        names = list(inspect.signature(function).parameters)
        for change in (lambda value: value, listed, listed_outside, listed_inside):
            changed = [own if name == "thing" else change(own) for name, own in zip(names, args)]
            kept = copy.deepcopy(changed)
            with self.subTest(function=function.__name__, args=changed):
                check(lambda: function(*changed))
                check(lambda: function(**dict(zip(names, changed))))
                self.same(changed, kept)

    def gives(self, want, function, *args):
        """function(*args) is want, also with lists for tuples, by name and again."""
        def check(call):
            first, second = call(), call()
            self.same(first, want)
            self.same(second, want)
            if isinstance(first, list):
                self.assertIsNot(first, second)

        self.call_in_all_ways(function, args, check)

    def refuses(self, error, function, *args):
        """function(*args) raises an error like this one, also with lists for tuples and by name."""
        def check(call):
            with self.assertRaises(error.__class__) as caught:
                call()
            self.same_error(caught.exception, error)

        self.call_in_all_ways(function, args, check)

    def check_examples(self, text, names):
        """Works the examples from top to bottom; what they assign is kept in names."""
        for code, expected in parsed_examples(text):
            with self.subTest(code=code):
                if isinstance(ast.parse(code).body[0], ast.Assign):
                    self.assertEqual(expected, "")
                    exec(code, names)
                elif expected.startswith("raises "):
                    want = eval(expected[len("raises "):], names)
                    with self.assertRaises(want.__class__) as caught:
                        eval(code, names)
                    self.same_error(caught.exception, want)
                else:
                    self.same(eval(code, names), eval(expected, names))
