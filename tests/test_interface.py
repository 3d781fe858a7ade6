"""Point 22: each name of the interface stands in its own file, with the arguments as they are written."""

import importlib
import inspect
import unittest

INTERFACE = {
    "errors": "NoPlace(place), BadText(line), CanNot(), TooMuch(), Unfit()",
    "rings": "is_word(wide, thing), is_ring(wide, thing), turned(ring, number), least_turned(ring),"
             " are_turned(one, other), root(ring), letter_at(ring, room, step), read(ring, room, steps),"
             " look_alike(one, other), first_apart(one, other)",
    "questions": "is_question(thing), wide_of(question), state_after(question, word), answer(question, word),"
                 " least_question(question), are_alike(one, other), parting(one, other), joined(one, other),"
                 " renamed(question, answers), turned_about(question)",
}


def entries(text):
    """The pairs (name, [arguments]) of a list as the interface tells them."""
    for part in text.rstrip(")").split("), "):
        name, arguments = part.split("(")
        yield name, [own for own in arguments.split(", ") if own]


class Interface(unittest.TestCase):
    def test_names_files_and_arguments(self):
        for file, text in INTERFACE.items():
            module = importlib.import_module("roundtold." + file)
            for name, arguments in entries(text):
                with self.subTest(file=file, name=name):
                    own = getattr(module, name)
                    self.assertEqual(own.__module__, module.__name__)
                    if inspect.isfunction(own):
                        parameters = inspect.signature(own).parameters.values()
                        self.assertEqual([parameter.name for parameter in parameters], arguments)
                        self.assertTrue(all(parameter.default is parameter.empty for parameter in parameters))
                        self.assertTrue(all(parameter.kind is parameter.POSITIONAL_OR_KEYWORD
                                            for parameter in parameters))


if __name__ == "__main__":
    unittest.main()
