"""The DOINGS of a QUESTION and their LOTS, worked out together for whatever is asked of them."""

from roundtold.courses import course
from roundtold.errors import NoPlace
from roundtold.questions import come_to, led, least_question, numbered, wide_of
from roundtold.values import is_place

MOST_DOINGS = 200


def composed(one, other):
    """What is done by one and then by other."""
    return tuple(other[state] for state in one)


def words_by_steps(steps):
    """The list with for each place the least WORD that leads to it from place 0."""
    words = [()]
    for place, row in enumerate(steps):
        for index, after in enumerate(row):
            # Places are numbered as they are first come to.
            if after == len(words):
                words.append(words[place] + (index + 1,))
    return words


def least_way(steps, goal):
    """The least WORD that leads to the place goal from place 0, told alone: all may be too much to be kept."""
    found = {0: (0, 0)}
    for place, row in enumerate(steps):
        for index, after in enumerate(row):
            if after not in found:
                found[after] = (place, index + 1)
    word = []
    while goal != 0:
        goal, letter = found[goal]
        word.append(letter)
    return tuple(reversed(word))


def all_below(ways):
    """The list with for each place a number that has the bits of all places to which ways lead from it, its own too."""
    below = [1 << place for place in range(len(ways))]
    changed = True
    while changed:
        changed = False
        # Most ways lead to a later place: so those are done first.
        for place in reversed(range(len(ways))):
            bits = below[place]
            for after in ways[place]:
                bits |= below[after]
            changed = changed or bits != below[place]
            below[place] = bits
    return below


class Order:
    """The DOINGS of a QUESTION at places that are ordered by their least WORDS, and their LOTS.

    Place 0 is that of (), whatever does as little; from 1 on stand the DOINGS.
    """

    def __init__(self, question):
        steps, answers = least_question(question)
        letters = [tuple(row[index] for row in steps) for index in range(wide_of(question))]
        self.doings, self.steps = come_to(
            (), len(letters),
            lambda doing, index: letters[index] if doing == () else composed(doing, letters[index]),
            MOST_DOINGS + 1,
        )
        self.words = words_by_steps(self.steps)
        self.answers = [answers[0]] + [answers[doing[0]] for doing in self.doings[1:]]
        self.places = {doing: place for place, doing in enumerate(self.doings) if place > 0}
        # Where letters lead that are put ahead.
        self.ahead = [self.steps[0]] + [
            tuple(self.places[composed(letter, doing)] for letter in letters) for doing in self.doings[1:]
        ]
        self.below = all_below([behind + ahead for behind, ahead in zip(self.steps, self.ahead)])
        # DOINGS are like exactly if the same ones are under them.
        self.lots = [None] + numbered(self.below[1:])
        self.firsts = []
        self.idempotents = []
        self.mark_lots()

    def mark_lots(self):
        """Notes for each LOT the place of its first DOING, and of the first one d that is d d, None if none is."""
        for place in range(1, len(self.doings)):
            lot = self.lots[place]
            if lot == len(self.firsts):
                self.firsts.append(place)
                self.idempotents.append(None)
            if self.idempotents[lot] is None and self.is_idempotent(place):
                self.idempotents[lot] = place

    def is_idempotent(self, place):
        """Whether the DOING d at this place is d d."""
        doing = self.doings[place]
        return composed(doing, doing) == doing

    def place_of(self, word):
        """The place of the DOING of word, 0 for ()."""
        return led(self.steps, 0, word)

    def places_of(self, words):
        """The list of the places of these WORDS."""
        return [self.place_of(word) for word in words]

    def steps_until(self, ring, room, is_enough):
        """How many letters must be read from room on until what they have come to, a place, is enough."""
        place = 0
        steps = 0
        while not is_enough(place):
            place = self.steps[place][ring[(room + steps) % len(ring)] - 1]
            steps += 1
        return steps

    def place_of_doing(self, doing):
        """The place of this DOING; None if it is none."""
        return self.places.get(tuple(doing))

    def powers(self, place):
        """The places of d, d d, .. for the DOING d at this place, until they come again."""
        doing = self.doings[place]
        path, _ = course(place, lambda power: self.places[composed(self.doings[power], doing)])
        return path

    def last_power(self, place):
        """The place of the one e of d, d d, .. that is e e."""
        return [power for power in self.powers(place) if self.is_idempotent(power)][0]

    def lot_of_ring(self, ring):
        """The number of the LOT of ring."""
        return self.lots[self.last_power(self.place_of(ring))]

    def is_under(self, place, other):
        """Whether the DOING at this place is under that at the other one."""
        return (self.below[other] >> place) & 1 == 1

    def lots_under(self, places):
        """The list of the numbers of the LOTS under the DOINGS at all these places; under () all are."""
        return [
            lot for lot, first in enumerate(self.firsts)
            if all([self.is_under(first, place) for place in places])
        ]

    def firm_under(self, places):
        """The list of the firm ones of them."""
        return [lot for lot in self.lots_under(places) if self.idempotents[lot] is not None]

    def check_lot(self, lot):
        """NoPlace if there is no LOT of this number."""
        if not is_place(lot, len(self.firsts)):
            raise NoPlace(lot)
