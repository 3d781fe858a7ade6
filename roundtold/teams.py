"""Teams: what several walkers have read together."""

from itertools import combinations

from roundtold.errors import CanNot, Unfit
from roundtold.pairs import is_unlike_pair
from roundtold.rings import check_room, read
from roundtold.rows import open_rows
from roundtold.still import may_be, ring_with
from roundtold.sure import check_sure, steps_to_sure


def check_rooms(ring, rooms):
    """NoPlace for the first of these rooms that ring has not."""
    for room in rooms:
        check_room(ring, room)


def team_rows(question, ring, rooms):
    """The Rows of a QUESTION, behind all errors of a team."""
    rows = open_rows(question)
    check_rooms(ring, rooms)
    return rows


def soonest(rows, ring, teams):
    """The pair of the least steps behind which one of these teams is sure, ring being so, and the first one."""
    places = [0] * len(ring)
    steps = 0
    while True:
        for rooms in teams:
            if rows.one_answer(rows.left([places[room] for room in rooms])) is not None:
                return steps, rooms
        letters = read(ring, steps % len(ring), len(ring))
        places = [rows.order.steps[place][letter - 1] for place, letter in zip(places, letters)]
        steps += 1


def team_read(ring, rooms, steps):
    """The STRETCHES: for each of rooms the WORD that is read from there in so many steps."""
    return tuple(read(ring, room, steps) for room in rooms)


def team_left(question, ring, rooms, steps):
    """The set of the numbers of the firm LOTS of RINGS that still may be for the team."""
    rows = team_rows(question, ring, rooms)
    return tuple(rows.left_by(team_read(ring, rooms, steps)))


def team_to_come(question, ring, rooms, steps):
    """The WORDS TO COME for the team, nothing being said."""
    rows = team_rows(question, ring, rooms)
    return rows.to_come(rows.left_by(team_read(ring, rooms, steps)), None)


def team_sure(question, ring, rooms):
    """The least number of steps behind which the team is sure of an ANSWER."""
    rows = team_rows(question, ring, rooms)
    check_sure(rows, ring)
    steps, _ = soonest(rows, ring, [rooms])
    return steps


def alone_later(question, ring, rooms):
    """The tuple with for each of rooms how many steps later than the team the one that begins there is sure alone."""
    rows = team_rows(question, ring, rooms)
    check_sure(rows, ring)
    steps, _ = soonest(rows, ring, [rooms])
    return tuple(steps_to_sure(rows, ring, room) - steps for room in rooms)


def best_rooms(question, ring, many):
    """Of the sets of so many rooms the least of those from which a team is sure soonest."""
    rows = open_rows(question)
    if len(ring) < many:
        raise Unfit()
    check_sure(rows, ring)
    teams = list(combinations(range(len(ring)), many))
    _, rooms = soonest(rows, ring, teams)
    return rooms


def team_doubt(question, ring, rooms, steps):
    """A pair of RINGS with unlike answers that both still may be for the team."""
    rows = team_rows(question, ring, rooms)
    stretches = team_read(ring, rooms, steps)
    lots = rows.left_by(stretches)
    others = rows.with_another(lots, rows.answers[lots[0]])
    if len(others) == 0:
        raise CanNot()
    return ring_with(rows.order, stretches, lots[0]), ring_with(rows.order, stretches, others[0])


def is_team_doubt(question, ring, rooms, steps, thing):
    """Whether thing is such a pair."""
    team_rows(question, ring, rooms)
    if not is_unlike_pair(question, thing):
        return False
    stretches = team_read(ring, rooms, steps)
    return may_be(stretches, thing[0]) and may_be(stretches, thing[1])
