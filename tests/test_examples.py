"""The examples of the document, as they stand there."""

import builtins
import doctest
import importlib
import pathlib
import unittest

from tests.helper import Case

FILES = (
    "errors", "rings", "questions", "doings", "answerable", "walkers", "still", "grades", "safe", "sure", "few",
    "promised", "fog", "teams", "rooms", "judged", "texts", "judge", "desk",
)

# Sections in the document's order: a name is that of the nearest example before it that sets it.
RINGS = """
    >>> ring = (2, 1, 1, 2)
    >>> turned(ring, 1), turned(ring, -1), turned(ring, 6), least_turned(ring), are_turned(ring, (1, 2, 2, 1)), are_turned(ring, (1, 2, 1, 2))
    ((1, 1, 2, 2), (2, 2, 1, 1), (1, 2, 2, 1), (1, 1, 2, 2), True, False)
    >>> root((1, 2, 1, 2)), root((1, 1, 1)), root(ring), letter_at(ring, 1, 10 ** 30), read(ring, 3, 6), read(ring, 0, 0)
    (((1, 2), 2), ((1,), 3), ((2, 1, 1, 2), 1), 1, (2, 2, 1, 1, 2, 2), ())
    >>> look_alike((1, 2), (1, 2, 1, 2)), look_alike((1, 2), (2, 1)), first_apart((1, 2), (2, 1)), first_apart((1, 1, 2), (1, 1))
    (True, False, 0, 2)
    >>> first_apart((1, 2), (1, 2, 1)), first_apart((1, 2, 1, 1, 2), (1, 2, 1)), are_turned((1, 2), (1, 2, 1, 2))
    (3, 6, False)
    >>> is_word(2, ()), is_ring(2, ()), is_ring(2, (1, 3)), is_ring(3, (1, 3)), is_ring(2, [1]), is_ring(2, (True,))
    (True, False, False, True, False, False)
    >>> read(ring, 4, 1)
    raises NoPlace(place=4)
    >>> first_apart((1, 2), (1, 2, 1, 2))
    raises CanNot()
"""

QUESTIONS = """
    >>> some, odd, first = (((0, 1), (1, 1)), (0, 1)), (((0, 1), (1, 0)), (0, 1)), (((1, 2), (1, 1), (2, 2)), (0, 1, 0))
    >>> twice, late = (((1, 2), (0, 2), (2, 2)), (0, 0, 1)), (((1, 2), (1, 2), (2, 2)), (5, 0, 1))
    >>> wide_of(some), state_after(first, (1, 2, 2)), answer(odd, (2, 1, 2)), answer(odd, (2, 1)), answer(late, (1,))
    (2, 1, 0, 1, 0)
    >>> least_question(twice) == some, least_question(late) == late, are_alike(late, some), are_alike(some, odd)
    (True, True, True, False)
    >>> parting(some, odd), parting(first, some), joined(some, odd)
    ((2, 2), (1,), (((0, 1), (1, 2), (2, 1)), (0, 11, 10)))
    >>> renamed(some, (3, 0)), turned_about(first), turned_about(twice) == some
    ((((0, 1), (1, 1)), (3, 0)), (((1, 0), (1, 0)), (0, 1)), True)
    >>> [is_question(own) for own in (some, (((0,),), (9,)), (((0, 0, 0, 0),), (0,)), (((1,),), (0,)), (((0, 0),), (0, 0)), (((0,),), (True,)), [((0,),), (0,)])]
    [True, True, False, False, False, False, False]
    >>> answer(some, ())
    raises Unfit()
    >>> parting(late, some)
    raises CanNot()
    >>> joined(some, (((0,),), (0,)))
    raises Unfit()
"""

DOINGS = """
    >>> greatest, two = (((0, 1, 2), (1, 1, 2), (2, 2, 2)), (0, 1, 0)), (((1,), (2,), (2,)), (0, 0, 1))
    >>> doing_of(greatest, (1, 2, 1)), doing_of(twice, (1, 1)), then((1, 2, 2), (0, 0, 1)), doings(odd), word_for(greatest, (2, 2, 2))
    ((1, 1, 2), (0, 1), (0, 1, 1), ((0, 1), (1, 0)), (3,))
    >>> lots(greatest), lots(odd), lots(first), lots(two)
    ((((0, 1, 2),), ((1, 1, 2),), ((2, 2, 2),)), (((0, 1), (1, 0)),), (((1, 1, 2), (2, 1, 2)),), (((1, 2, 2),), ((2, 2, 2),)))
    >>> is_under(greatest, (2, 2, 2), (1, 1, 2)), is_under(greatest, (1, 1, 2), (2, 2, 2)), is_under(odd, (0, 1), (1, 0)), lot_of(two, (2, 2, 2))
    (True, False, True, 1)
    >>> lots_under(greatest, 1), firm_lots(two), is_firm(two, 0), ring_lot(two, (1,)), ring_lot(greatest, (2, 1)), ring_lot(first, (2, 1))
    ((1, 2), (1,), False, 1, 1, 0)
    >>> [least_ring(greatest, own) for own in (0, 1, 2)], least_ring(two, 1)
    ([(1,), (2,), (3,)], (1,))
    >>> word_for(some, (0, 0))
    raises CanNot()
    >>> lots_under(some, 2)
    raises NoPlace(place=2)
    >>> least_ring(two, 0)
    raises Unfit()
"""

ANSWERABLE = """
    >>> some, greatest = (((0, 1), (1, 1)), (0, 1)), (((0, 1, 2), (1, 1, 2), (2, 2, 2)), (0, 1, 0))
    >>> odd, first = (((0, 1), (1, 0)), (0, 1)), (((1, 2), (1, 1), (2, 2)), (0, 1, 0))
    >>> [is_open(own) for own in (some, greatest, odd, first)], [is_of_rings(own) for own in (some, odd, first)], [needs_mark(own) for own in (some, odd, first)]
    ([True, True, False, False], [True, True, False], [False, True, False])
    >>> is_flaw(odd, ("power", (2,), 2)), is_flaw(odd, ("power", (2,), 3)), is_flaw(first, ("turn", (1,), (2,))), is_flaw(some, ("turn", (1,), (2,))), is_flaw(odd, ("power", (2,), 10 ** 30))
    (True, False, True, False, True)
    >>> is_flaw(odd, flaw(odd)), is_flaw(first, flaw(first)), flaw(first)[0], flaw(odd)[0]
    (True, True, 'turn', 'power')
    >>> lot_answers(some), lot_answers(greatest), ring_answer(greatest, (1, 2, 1)), ring_answer(greatest, (3, 2))
    ((0, 1), (0, 1, 0), 1, 0)
    >>> opened(odd), opened(greatest) == greatest
    ((((0, 0),), (0,)), True)
    >>> flaw(some)
    raises CanNot()
    >>> lot_answers(odd)
    raises Unfit()
    >>> opened(first)
    raises Unfit()
"""

WALKERS = """
    >>> seeker = ((((1, 1), (2, 1)), ((1, 1), (2, 1)), ((2, 1), (2, 1))), (None, 0, 1))
    >>> is_walker(seeker), is_walker(((((1, 1),),), (0,))), is_walker((((),), (0,))), wide_walked(seeker), goes_on(seeker)
    (True, False, False, 2, True)
    >>> played(seeker, (1, 2, 1), 0, 4), words(seeker, (1, 2, 1), 0, 4), said_after(seeker, (1, 1), 1, 10 ** 30)
    (((1, 1, 0), (2, 2, 1), (0, 2, 1), (1, 2, 1)), (0, 1), 0)
    >>> settled(seeker, (1, 2, 1), 0), all_words(seeker, (1, 2, 1), 0), [settles_behind(seeker, (1, 2, 1), room) for room in range(3)], said_after(seeker, (2,), 0, 0)
    (1, (0, 1), [2, 1, 3], None)
    >>> turner = ((((0, -1), (1, 1)), ((1, 1), (0, -1))), (None, 3))
    >>> played(turner, (1, 2, 1), 0, 6), settled(turner, (1, 2, 1), 0), settles_behind(turner, (1, 2, 1), 0)
    (((2, 0, None), (1, 0, None), (2, 1, 3), (0, 1, 3), (1, 1, 3), (0, 0, 3)), 3, 3)
    >>> settled(turner, (1, 1), 0), all_words(turner, (1, 1), 0), settles_behind(turner, (1, 1), 0), goes_on(turner), mirrored_walker(turner)[0][0]
    (None, (), 0, False, ((0, 1), (1, -1)))
    >>> swing_round = ((((1, 1),), ((0, 1),)), (0, 1))
    >>> words(swing_round, (1,), 0, 5), said_after(swing_round, (1,), 0, 10 ** 30), said_after(swing_round, (1,), 0, 10 ** 30 - 1)
    ((1, 0, 1, 0, 1), 0, 1)
    >>> settled(swing_round, (1,), 0)
    raises CanNot()
    >>> played(seeker, (1, 2, 1), 3, 1)
    raises NoPlace(place=3)
"""

STILL = """
    >>> some, greatest = (((0, 1), (1, 1)), (0, 1)), (((0, 1, 2), (1, 1, 2), (2, 2, 2)), (0, 1, 0))
    >>> side = (((1, 3), (1, 2), (1, 5), (4, 5), (4, 3), (5, 5)), (0, 0, 0, 1, 0, 1))
    >>> lots_left(some, ((1, 1),)), lots_left(some, ((1,), (1, 2))), lots_left(greatest, ((),)), lots_left(greatest, ((2, 1),)), answers_left(greatest, ((1,), (2,)))
    ((0, 1), (1,), (0, 1, 2), (1, 2), (0, 1))
    >>> lots_left(side, ((2,),)), lots_left(side, ((2, 1), (2, 2))), answers_left(side, ((2, 1), (1, 1, 2)))
    ((0, 1), (1,), (0, 1))
    >>> [is_ring_left(side, ((2, 1), (1, 1, 2)), 0, own) for own in ((1, 1, 2), (2, 1, 1, 1), (1, 2), (2, 1, 2, 1, 1), [1, 1, 2])]
    [True, True, False, True, False]
    >>> is_ring_left(side, ((2,), (1,)), 1, ring_left(side, ((2,), (1,)), 1)), is_ring_left(some, ((1, 1),), 0, (1,)), is_ring_left(some, ((1, 1),), 0, (3,))
    (True, True, False)
    >>> may_be(((2, 1, 2, 1, 2),), (1, 2)), may_be(((1, 1, 2), (2, 1, 2)), (1, 1, 2)), may_be(((), (3, 3)), (3,))
    (True, False, True)
    >>> ring_left(some, ((2,),), 0)
    raises CanNot()
    >>> ring_left(some, ((2,),), 2)
    raises NoPlace(place=2)
    >>> lots_left((((1, 2), (1, 1), (2, 2)), (0, 1, 0)), ((),))
    raises Unfit()
"""

GRADES = """
    >>> ranks = (((0, 1, 2), (1, 1, 1), (2, 1, 2)), (0, 1, 2))
    >>> grades(some), grades(greatest), swing(some), swing(greatest), swing((((0,),), (7,)))
    ((2, 1), (3, 2, 1), 2, 3, 1)
    >>> row(greatest, 0), row(greatest, 1), greatest_row(some), ring_grade(greatest, (1, 2, 1)), grade(some, 1)
    ((0, 1, 2), (1, 2), (0, 1), 2, 1)
    >>> [rows_from(some, own) for own in (0, 1, 2)], [rows_from(greatest, own) for own in (0, 1)]
    ([2, 1, 0], [3, 2])
    >>> [is_row(greatest, own) for own in ((0, 1, 2), (1,), (0, 2), (1, 0), (), [0, 1], (0, True), (3,))]
    [True, True, False, False, False, False, False, False]
    >>> grades(ranks), row(ranks, 0), rows_from(ranks, 1), greatest_row(renamed(ranks, (1, 0, 3)))
    ((3, 1, 2), (0, 2, 1), 1, (0, 2, 1))
    >>> grade(some, 2)
    raises NoPlace(place=2)
    >>> swing(odd)
    raises Unfit()
    >>> rows_from(first, 0)
    raises Unfit()
"""

SAFE = """
    >>> words_to_come(greatest, ((),), None), words_to_come(greatest, ((1, 1),), 0), words_to_come(greatest, ((1, 2),), 1), words_to_come(greatest, ((3,),), 0), words_to_come(greatest, ((2,), (3,)), 1)
    (3, 2, 1, 0, 1)
    >>> safe(greatest, ((1,),), None, 3), safe(greatest, ((1,),), None, 4), safe(greatest, ((2,),), 0, 2), safe(greatest, ((2,),), 0, 1)
    ((0,), (0, 1), (0, 1), ())
    >>> may_be_silent(greatest, ((2,),), 0, 1), may_be_silent(greatest, ((2,),), 0, 2), row_to_come(greatest, ((),), None)
    (False, True, (0, 1, 2))
    >>> is_row_to_come(greatest, ((2,),), 0, (1, 2)), is_row_to_come(greatest, ((2,),), 0, (0, 1))
    (True, False)
    >>> plain_says(greatest, (1, 2, 1, 3), 0, 5), slip(greatest, (1, 2, 1, 3), 0, (0, 1, None, 0), 3), slip(greatest, (1, 2, 1, 3), 0, (0, 1, None, 0), 2)
    ((0, 1, 1, 0, 0), None, 0)
    >>> safe(odd, ((),), None, 3)
    raises Unfit()
    >>> plain_says(some, (1, 2), 2, 1)
    raises NoPlace(place=2)
"""

SURE = """
    >>> sure_of(some, ((1, 1),)), sure_of(some, ((1, 1), (1, 2))), sure_of(greatest, ((2, 3, 1),)), sure_of(greatest, ((2,),)), sure_of(side, ((1, 2), (2, 1))), sure_of(side, ((1, 2, 2),))
    (None, 1, 0, None, None, 1)
    >>> [is_sure_ring(greatest, own) for own in ((1,), (2, 1), (1, 3, 2))], is_sure_ring(side, (2,)), is_sure_ring(side, (1, 2))
    ([False, False, True], True, False)
    >>> [sure_behind(side, (1, 2, 2), own) for own in (0, 1, 2)], latest_sure(side, (1, 2, 2)), sure_behind(side, (2,), 0), latest_sure(side, (1, 2, 1, 1, 2, 2)), latest_sure(some, (1, 1, 2))
    ([3, 2, 4], (4, 2), 2, (7, 5), (3, 0))
    >>> surest(some), surest(greatest), surest(side), least_sure(side, 1), least_sure(greatest, 0), least_sure((((0,),), (4,)), 4)
    ((1,), (0,), (1,), (2, 2), (3,), ())
    >>> sure_behind(some, (1, 1), 1)
    raises CanNot()
    >>> sure_behind(some, (1, 2), 2)
    raises NoPlace(place=2)
    >>> least_sure(greatest, 1)
    raises CanNot()
"""

FEW = """
    >>> greatest = (((0, 1, 2), (1, 1, 2), (2, 2, 2)), (0, 1, 0))
    >>> [served(greatest, own) for own in (0, 1, 2, 3)], serves(greatest, 1, (1, 1, 3)), serves(greatest, 1, (2, 1))
    ([(), (2,), (1, 2), (0, 1, 2)], True, False)
    >>> speaks_behind(greatest, 2, (1, 1, 2, 1, 1), 3), speaks_behind(greatest, 3, (1, 1, 2, 1, 1), 3), speaks_behind(greatest, 1, (1, 3), 0)
    (5, 0, 2)
    >>> [is_unserved(greatest, 1, ((1, 2), (1,)), own) for own in ((2, 1), (1,), (3, 1, 2), [2, 1])], is_unserved(greatest, 1, ((),), unserved(greatest, 1, ((),)))
    ([True, False, False, False], True)
    >>> some = (((0, 1), (1, 1)), (0, 1))
    >>> walker = walker_for(some, 1)
    >>> goes_on(walker), settled(walker, (1, 2), 0), settled(walker, (1, 1), 0), all_words(walker, (1, 2), 0), all_words(walker, (1,), 0)
    (True, 1, None, (1,), ())
    >>> settled(walker_for(greatest, 2), (1, 2, 3), 1), all_words(walker_for(greatest, 2), (2, 1), 1), all_words(walker_for(greatest, 2), (1,), 0)
    (0, (1,), ())
    >>> speaks_behind(greatest, 1, (1, 1, 2, 1, 1), 3)
    raises CanNot()
    >>> unserved(greatest, 2, ((1, 2),))
    raises CanNot()
    >>> speaks_behind(some, 1, (1, 2), 2)
    raises NoPlace(place=2)
"""

PROMISED = """
    >>> greatest, three = (((0, 1, 2), (1, 1, 2), (2, 2, 2)), (0, 1, 0)), (((0, 0, 1), (1, 1, 1)), (0, 1))
    >>> no_three, a_three, no_ring = (three, (0,)), (three, (1,)), (three, (7,))
    >>> kept_lots(greatest, no_three), [promised_swing(greatest, own) for own in (no_three, a_three, (three, (0, 1)), no_ring)]
    ((0, 1), [2, 1, 3, 0])
    >>> promised_grade(greatest, no_three, (1, 1)), lowers(greatest, three), is_promise(no_three), is_promise((three, ())), is_promise((odd, (1,)))
    (2, ((0, 2), (1, 1)), True, False, False)
    >>> [promised_safe(greatest, no_three, ((1, 2),), None, own) for own in (0, 1, 2)], [promised_safe(greatest, no_three, ((1,),), *own) for own in ((0, 1), (0, 0), (1, 2))]
    ([(), (1,), (0, 1)], [(0,), (), (0, 1)])
    >>> promised_safe(greatest, a_three, ((),), None, 2), [promised_safe(greatest, no_ring, ((),), None, own) for own in (0, 1)]
    ((0, 1), [(), (0, 1)])
    >>> promised_sure(greatest, a_three, ((),)), promised_sure(greatest, no_three, ((1, 2), ())), promised_sure(greatest, no_three, ((1,),))
    (0, 1, None)
    >>> promised_grade(greatest, no_three, (1, 3))
    raises CanNot()
    >>> promised_swing(some, no_three)
    raises Unfit()
"""

FOG = """
    >>> either, mixed = (((0, 1, 1), (1, 1, 1)), (0, 1)), (((1, 2), (1, 3), (3, 2), (3, 3)), (0, 0, 0, 1))
    >>> [is_fog(3, own) for own in ((1, 2, 2), (2, 1, 2), (1, 3, 3), (1, 1))], look((1, 2, 2), (3, 1, 2))
    ([True, True, False, False], (2, 1, 2))
    >>> [is_borne(either, own) for own in ((1, 2, 2), (1, 1, 2))], borne_fogs(either), borne_fogs(mixed), is_hidden(either, (1, 1, 2), hidden(either, (1, 1, 2)))
    ([True, False], [(1, 2, 2), (1, 2, 3)], [(1, 2)], True)
    >>> fogged(either, (1, 2, 2)), fogged(either, (1, 1, 2)), fogged(mixed, (1, 1))
    ((((0, 1), (1, 1)), (0, 1)), (((1, 2), (1, 2), (2, 2)), (0, 2, 1)), (((1,), (1,)), (0, 2)))
    >>> [is_veil(mixed, (1, 1), (1,), own) for own in ((2,), (1, 2), (2, 1, 1))], [is_hidden(mixed, (1, 1), own) for own in (((1, 1), (2, 1)), ((1,), (2, 1)))]
    ([False, True, True], [True, False])
    >>> hidden(either, (1, 2, 2))
    raises CanNot()
    >>> veil(either, (1, 1, 2), (1, 3))
    raises CanNot()
    >>> is_borne(either, (1, 2))
    raises Unfit()
"""

TEAMS = """
    >>> both, here = (((0, 1, 2), (1, 1, 3), (2, 3, 2), (3, 3, 3)), (0, 0, 0, 1)), (1, 2, 1, 3)
    >>> team_read(here, (1, 3), 2), team_left(both, here, (1, 3), 1), team_left(both, here, (1,), 1), [team_to_come(both, here, (1, 3), own) for own in (0, 1)]
    (((2, 1), (3, 1)), (3,), (1, 3), [2, 1])
    >>> team_sure(both, here, (1, 3)), alone_later(both, here, (1, 3)), team_sure(both, here, (0,)), team_sure(both, here, (0, 0, 2))
    (1, (2, 2), 4, 2)
    >>> [best_rooms(both, here, own) for own in (1, 2, 3)], best_rooms(both, (3, 2), 1)
    ([(1,), (1, 3), (0, 1, 3)], (0,))
    >>> [is_team_doubt(both, here, (1,), 1, own) for own in (((2,), (2, 3)), ((2,), (1, 2)), ((1,), (2, 3)))], is_team_doubt(both, here, (0, 2), 1, team_doubt(both, here, (0, 2), 1))
    ([True, False, False], True)
    >>> team_doubt(both, here, (1, 3), 1)
    raises CanNot()
    >>> team_sure(both, (1, 2), (0, 1))
    raises CanNot()
    >>> team_read(here, (1, 4), 1)
    raises NoPlace(place=4)
    >>> best_rooms(both, (1, 2), 3)
    raises Unfit()
"""

ROOMS = """
    >>> twice = (((1, 2), (5, 3), (4, 2), (1, 3), (5, 2), (5, 5)), (0, 1, 0, 0, 0, 1))
    >>> rings_within(2, (1, 2, 1), 3), rings_within(3, (1,), 2), rings_within(2, (), 1), rings_within(2, (1, 2, 2, 1), 2)
    ([(1, 2), (1, 2, 1)], [(1,), (1, 1), (1, 2), (1, 3)], [(1,), (2,)], [])
    >>> answers_within(twice, (1, 2), 3), answers_within(twice, (1, 2, 1, 2), 3), answers_within(twice, (1, 2, 2, 1), 2), answers_within(twice, (), 1)
    ((0, 1), (0,), (), (0, 1))
    >>> some, all_one = (((0, 1), (1, 1)), (0, 1)), (((0, 0),), (7,))
    >>> [sure_within(twice, own) for own in (1, 2, 3, 4)], [sure_within(some, own) for own in (1, 2, 5)], sure_within(all_one, 6)
    ([1, 2, 4, 5], [1, 2, 5], 0)
    >>> [is_last_pair(twice, 3, own) for own in (((1, 2), (1, 2, 1)), ((1, 2, 1), (1, 2)), ((1, 2), (1, 2, 2)), ((1, 2),), ((1, 2), [1, 2, 1]))]
    [True, True, False, False, False]
    >>> is_last_pair(some, 5, last_pair(some, 5)), is_last_pair(some, 2, ((1, 2), (1, 1))), is_last_pair(some, 2, ((2,), (1,)))
    (True, True, False)
    >>> last_pair(all_one, 6)
    raises CanNot()
    >>> sure_within((((1, 2), (1, 1), (2, 2)), (0, 1, 0)), 2)
    raises Unfit()
"""

JUDGED = """
    >>> plain = ((((0, 1), (1, 1)), ((1, 1), (1, 1))), (0, 1))
    >>> flip, slow = ((((0, 1), (1, 1)), ((0, 1), (1, 1))), (0, 1)), ((((0, 1), (1, 1)), ((2, 1), (1, 1)), ((2, 1), (2, 1))), (0, None, 1))
    >>> is_right(some, plain), is_right(some, flip), wrong(some, flip), is_right(some, slow), wrong(some, slow)
    (True, False, (1, 2), False, (2,))
    >>> most_words(plain), most_words(flip), is_pump(flip, ((1, 2), (1, 2))), is_pump(flip, ((), (1, 2))), is_pump(plain, ((1,), (2,)))
    (2, None, True, False, False)
    >>> is_wrong(some, flip, ((1, 2), 1)), is_wrong(some, flip, ((2, 2), 0)), is_wrong(some, plain, ((1, 2), 0)), is_wrong(some, flip, ((1, 2), 2))
    (True, False, False, False)
    >>> is_against(some, plain, against(some, plain)), is_against(some, plain, ((1, 2), 0)), is_against(some, plain, ((1, 2), 1)), is_against(some, flip, against(some, flip))
    (True, True, False, True)
    >>> stands = ((((0, 0), (1, 0)), ((1, 0), (1, 0))), (0, 1))
    >>> is_against(some, stands, against(some, stands)), is_wrong(some, stands, ((1, 2), 0))
    (True, True)
    >>> wrong(some, plain)
    raises CanNot()
    >>> is_right(some, stands)
    raises Unfit()
"""

TEXTS = r"""
    >>> some, lazy = (((0, 1), (1, 1)), (0, 1)), ((((0, -1), (1, 0)), ((1, 1), (0, 1))), (None, 3))
    >>> question_told(some), read_question(question_told(some)) == some
    ('question\nstate 0 0 1\nstate 1 1 1', True)
    >>> walker_told(lazy), read_walker(walker_told(lazy)) == lazy
    ('walker\nstate - 0< 1=\nstate 3 1> 0>', True)
    >>> promise_told((some, (0, 1))), read_promise("promise 1\nquestion\nstate 7 0")
    ('promise 0 1\nquestion\nstate 0 0 1\nstate 1 1 1', ((((0,),), (7,)), (1,)))
    >>> ring_told((1, 2, 2)), read_ring(2, "ring 2 1"), stretches_told(((1,), ())), read_stretches(1, "stretch")
    ('ring 1 2 2', (2, 1), 'stretch 1\nstretch', ((),))
    >>> fog_told((1, 2, 1)), read_fog("fog 2 1")
    ('fog 1 2 1', (2, 1))
    >>> read_ring(2, "ring 1 3")
    raises BadText(line=1)
    >>> read_question("question\nstate 0 0 2\nstate 1 1 1")
    raises BadText(line=4)
    >>> read_walker("walker\nstate 0 0>\nstate 0 0")
    raises BadText(line=3)
    >>> read_promise("promise 1 0\nquestion\nstate 0 0")
    raises BadText(line=1)
"""

JUDGE = """
    >>> some, odd = (((0, 1), (1, 1)), (0, 1)), (((0, 1), (1, 0)), (0, 1))
    >>> verdicts((("open", some), ("open", odd), ("alike", some, odd), ("left", some, ((1,),), 0), ("left", some, ((2,),), 0)), ((), ("power", (2,), 2), (2, 2), (1, 1), ()))
    ['for', 'against', 'against', 'for', 'against']
    >>> verdicts((("come", some, ((1,),), None, 2), ("come", some, ((1,),), 0, 2), ("served", some, ((2,),), 1), ("served", some, ((1,),), 1)), ((0, 1), (), (), (1,)))
    ['for', 'against', 'for', 'against']
    >>> plain = ((((0, 1), (1, 1)), ((1, 1), (1, 1))), (0, 1))
    >>> verdicts((("right", some, plain), ("most", plain, 2), ("most", plain, 1)), ((), (), 2))
    ['for', 'for', 'against']
    >>> comes_of(("come", some, ((1,),), None, 1), (("come", some, ((1,), (2,)), None, 2),)), comes_of(("served", some, ((1,),), 2), (("served", some, ((1,), (2,)), 1),))
    (True, False)
    >>> is_so(("served", odd, ((),), 1))
    raises Unfit()
"""

DESK = r"""
    >>> desk("come\nsafe\nring\n ring 1 1 2\ngo 1\nroom\nleft\nsafe\nsilent\ncome\nsay 0\ncome\nsafe\nwords\ngo 2\nsure\nsafe\nsay 1\nwords\nsay 0\nanswer\nundo\nsaid")
    ['2', '0', 'done', 'done', '1', '0 1', '0', 'yes', '2', 'done', '1', '0', '1', 'done', '1', '0 1', 'done', '0', 'refused CanNot', '1', 'say', '0']
    >>> desk("walker\n walker\n state 0 0> 1>\n state 1 1> 1>\nring\n ring 1 2\nplays 1\nplays 2\nsettles\nwrong\nbegin 1\nplays 1\nbegin 2\ngo 1\nroom\nundo\nleft\nwalker\n walker\n state - 0=")
    ['done', 'done', '0', '1', '1', 'refused CanNot', 'done', '1', 'refused NoPlace', 'done', '0', 'go', '0 1', 'refused Unfit']
    >>> is_request("go 3"), is_request("go"), is_request("ring"), is_request("walker\n x"), is_request("say 01"), is_request("trap")
    (True, False, False, True, False, True)
    >>> desk("room\n\nleft")
    raises BadText(2)
"""

SECTIONS = (
    RINGS, QUESTIONS, DOINGS, ANSWERABLE, WALKERS, STILL, GRADES, SAFE, SURE, FEW, PROMISED, FOG, TEAMS, ROOMS,
    JUDGED, TEXTS, JUDGE, DESK,
)


class Examples(Case):
    def test_examples(self):
        names = {}
        for file in FILES:
            names.update(vars(importlib.import_module("roundtold." + file)))
        for text in SECTIONS:
            self.check_examples(text, names)

    def test_readme(self):
        # A doctest leaves _ behind among the builtins.
        self.addCleanup(vars(builtins).pop, "_", None)
        readme = pathlib.Path(__file__).resolve().parent.parent / "README.md"
        self.assertEqual(doctest.testfile(str(readme), module_relative=False).failed, 0)


if __name__ == "__main__":
    unittest.main()
