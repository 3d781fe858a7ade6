"""Point 22: each name of the interface stands in its own file, with the arguments as they are written."""

import importlib
import inspect
import unittest

INTERFACE = {
    "errors": "NoPlace(place), BadText(line), CanNot(), TooMuch(), Unfit()",
    "rings": "is_word(wide, thing), is_ring(wide, thing), turned(ring, number), least_turned(ring),"
             " are_turned(one, other), root(ring), letter_at(ring, room, step), read(ring, room, steps),"
             " look_alike(one, other), first_apart(one, other)",
    "questions": "is_question(thing), wide_of(question), state_after(question, word), answer(question, word),"
                 " least_question(question), are_alike(one, other), parting(one, other), joined(one, other),"
                 " renamed(question, answers), turned_about(question)",
    "doings": "doing_of(question, word), then(one, other), doings(question), word_for(question, doing),"
              " is_under(question, one, other), lots(question), lot_of(question, doing), lots_under(question, lot),"
              " is_firm(question, lot), firm_lots(question), ring_lot(question, ring), least_ring(question, lot)",
    "answerable": "is_of_rings(question), is_open(question), needs_mark(question), flaw(question),"
                  " is_flaw(question, thing), lot_answers(question), ring_answer(question, ring), opened(question)",
    "walkers": "is_walker(thing), wide_walked(walker), goes_on(walker), played(walker, ring, room, steps),"
               " said_after(walker, ring, room, steps), words(walker, ring, room, steps), settled(walker, ring, room),"
               " all_words(walker, ring, room), settles_behind(walker, ring, room), mirrored_walker(walker)",
    "still": "lots_left(question, stretches), answers_left(question, stretches), ring_left(question, stretches, lot),"
             " is_ring_left(question, stretches, lot, thing), may_be(stretches, ring)",
    "grades": "grade(question, lot), grades(question), ring_grade(question, ring), swing(question),"
              " row(question, lot), greatest_row(question), is_row(question, thing), rows_from(question, answer)",
    "safe": "words_to_come(question, stretches, said), row_to_come(question, stretches, said),"
            " is_row_to_come(question, stretches, said, thing), safe(question, stretches, said, many),"
            " may_be_silent(question, stretches, said, many), plain_says(question, ring, room, steps),"
            " slip(question, ring, room, says, many)",
    "sure": "sure_of(question, stretches), is_sure_ring(question, ring), sure_behind(question, ring, room),"
            " latest_sure(question, ring), surest(question), least_sure(question, answer)",
    "few": "served(question, many), serves(question, many, ring), unserved(question, many, stretches),"
           " is_unserved(question, many, stretches, thing), speaks_behind(question, many, ring, room),"
           " walker_for(question, many)",
    "promised": "is_promise(thing), kept_lots(question, promise), promised_swing(question, promise), "
                "promised_grade(question, promise, ring), promised_safe(question, promise, stretches, said, many), "
                "promised_sure(question, promise, stretches), lowers(question, other)",
    "fog": "is_fog(wide, thing), look(fog, word), is_borne(question, fog), hidden(question, fog), "
           "is_hidden(question, fog, thing), fogged(question, fog), veil(question, fog, ring), is_veil(question, "
           "fog, ring, thing), borne_fogs(question)",
    "teams": "team_read(ring, rooms, steps), team_left(question, ring, rooms, steps), team_to_come(question, ring, "
             "rooms, steps), team_sure(question, ring, rooms), alone_later(question, ring, rooms), "
             "best_rooms(question, ring, many), team_doubt(question, ring, rooms, steps), is_team_doubt(question, "
             "ring, rooms, steps, thing)",
    "rooms": "rings_within(wide, word, many), answers_within(question, word, many), sure_within(question, many), "
             "last_pair(question, many), is_last_pair(question, many, thing)",
    "judged": "is_right(question, walker), wrong(question, walker), is_wrong(question, walker, thing), "
              "most_words(walker), pump(walker), is_pump(walker, thing), against(question, walker), "
              "is_against(question, walker, thing)",
    "texts": "ring_told(ring), stretches_told(stretches), question_told(question), walker_told(walker), "
             "promise_told(promise), fog_told(fog), read_ring(wide, text), read_stretches(wide, text), "
             "read_question(text), read_walker(text), read_promise(text), read_fog(text)",
    "judge": "is_claim(thing), is_so(claim), paper(claim), is_paper_for(claim, thing), is_paper_against(claim, "
             "thing), verdicts(claims, things), comes_of(claim, claims), first_false(claims)",
    "desk": "desk(text), is_request(thing)",
}


def entries(text):
    """The pairs (name, [arguments]) of a list as the interface tells them."""
    for part in text.rstrip(")").split("), "):
        name, arguments = part.split("(")
        yield name, [own for own in arguments.split(", ") if own]


class Interface(unittest.TestCase):
    def test_names_files_and_arguments(self):
        for file, text in INTERFACE.items():
            module = importlib.import_module("roundtold." + file)
            for name, arguments in entries(text):
                with self.subTest(file=file, name=name):
                    own = getattr(module, name)
                    self.assertEqual(own.__module__, module.__name__)
                    if inspect.isfunction(own):
                        parameters = inspect.signature(own).parameters.values()
                        self.assertEqual([parameter.name for parameter in parameters], arguments)
                        self.assertTrue(all(parameter.default is parameter.empty for parameter in parameters))
                        self.assertTrue(all(parameter.kind is parameter.POSITIONAL_OR_KEYWORD
                                            for parameter in parameters))


if __name__ == "__main__":
    unittest.main()
