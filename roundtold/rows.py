"""ROWS of LOTS, worked out together from the answers of those LOTS that count."""

from roundtold.answerable import answers_of_lots, open_order
from roundtold.values import is_place


class Rows:
    """The ROWS that LOTS make, each but the first under the one ahead and with another answer; None counts not."""

    def __init__(self, order, answers):
        self.order = order
        self.answers = answers
        self.grades = [None] * len(answers)
        counted = [lot for lot, told in enumerate(answers) if told is not None]
        # As numbers the bits of a LOT are less than those of one that it is under: so that one is done later.
        for lot in sorted(counted, key=lambda own: order.below[order.firsts[own]]):
            self.grades[lot] = 1 + max([self.grades[other] for other in self.after(lot)], default=0)

    def is_counted(self, thing):
        """Whether thing is the number of a LOT that counts."""
        return is_place(thing, len(self.answers)) and self.answers[thing] is not None

    def follows(self, lot, other):
        """Whether the second LOT may stand behind the first one."""
        firsts = self.order.firsts
        return self.answers[lot] != self.answers[other] and self.order.is_under(firsts[other], firsts[lot])

    def after(self, lot):
        """The list of the LOTS that may stand behind this one."""
        return [other for other, told in enumerate(self.answers) if told is not None and self.follows(lot, other)]

    def least_row(self, lot):
        """The least of the longest ROWS that begin with this LOT."""
        row = [lot]
        while self.grades[row[-1]] > 1:
            wanted = self.grades[row[-1]] - 1
            row.append([other for other in self.after(row[-1]) if self.grades[other] == wanted][0])
        return tuple(row)

    def longest_row(self, lots):
        """One of the longest ROWS that begin with one of these LOTS, () without one."""
        longest = [lot for lot in lots if self.grades[lot] == self.greatest(lots)]
        return self.least_row(longest[0]) if len(longest) > 0 else ()

    def is_row(self, thing):
        """Whether thing is a ROW."""
        if not isinstance(thing, tuple) or len(thing) == 0 or not all([self.is_counted(lot) for lot in thing]):
            return False
        return all([self.follows(lot, other) for lot, other in zip(thing, thing[1:])])

    def left(self, places):
        """The list of the LOTS that count and are under the DOINGS at all these places; under () all are."""
        return [lot for lot in self.order.lots_under(places) if self.answers[lot] is not None]

    def left_by(self, stretches):
        """The list of the LOTS that count and are left by STRETCHES."""
        return self.left(self.order.places_of(stretches))

    def swing(self):
        """The greatest GRADE of all, 0 if no LOT counts."""
        return self.greatest(self.left([]))

    def greatest(self, lots):
        """The greatest GRADE of these LOTS, 0 without one."""
        return max([self.grades[lot] for lot in lots], default=0)

    def ring_grade(self, ring):
        """The GRADE of the LOT of ring."""
        return self.grades[self.order.lot_of_ring(ring)]

    def with_another(self, lots, said):
        """The list of those of these LOTS whose answer is not said."""
        return [lot for lot in lots if self.answers[lot] != said]

    def to_come(self, lots, said):
        """How many words are to come if these LOTS are left and said was said last."""
        return self.greatest(self.with_another(lots, said))

    def answers_of(self, lots):
        """The ascending list of the answers of these LOTS."""
        return sorted({self.answers[lot] for lot in lots})

    def one_answer(self, lots):
        """The answer of all these LOTS; None if they have not one."""
        answers = self.answers_of(lots)
        return answers[0] if len(answers) == 1 else None


def open_rows(question):
    """The Rows of a QUESTION; Unfit, behind TooMuch, if it is not open to walkers."""
    order = open_order(question)
    return Rows(order, answers_of_lots(order))
