"""Which QUESTIONS are open to walkers, and how those that are not fail."""

from roundtold.courses import come_behind, course
from roundtold.errors import CanNot, Unfit
from roundtold.order import Order
from roundtold.questions import answer, least_question, led, wide_of
from roundtold.rings import is_ring
from roundtold.values import is_number


def turn_flaw(order):
    """A FLAW that shows that it is not of rings; None if there is none."""
    # One letter at a time turns a RING as far as one likes: no longer WORDS are needed.
    for place in range(1, len(order.steps)):
        for index, (behind, ahead) in enumerate(zip(order.steps[place], order.ahead[place])):
            if order.answers[behind] != order.answers[ahead]:
                return "turn", order.words[place], (index + 1,)
    return None


def power_flaw(order):
    """A FLAW with a power; None if there is none."""
    for place in range(1, len(order.steps)):
        for number, power in enumerate(order.powers(place), start=1):
            if order.answers[power] != order.answers[place]:
                return "power", order.words[place], number
    return None


def first_flaw(order):
    """A FLAW; None if there is none."""
    return turn_flaw(order) or power_flaw(order)


def open_order(question):
    """The Order of a QUESTION; Unfit, behind TooMuch, if it is not open to walkers."""
    order = Order(question)
    if first_flaw(order) is not None:
        raise Unfit()
    return order


def answers_of_lots(order):
    """The tuple with for each LOT its answer, None if it is not firm."""
    return tuple(None if place is None else order.answers[place] for place in order.idempotents)


def is_of_rings(question):
    """Whether x y and y x always have one answer."""
    return turn_flaw(Order(question)) is None


def is_open(question):
    """Whether it is open to walkers."""
    return first_flaw(Order(question)) is None


def needs_mark(question):
    """Whether it is of rings, but not open to walkers."""
    order = Order(question)
    return turn_flaw(order) is None and power_flaw(order) is not None


def flaw(question):
    """A FLAW of it."""
    found = first_flaw(Order(question))
    if found is None:
        raise CanNot()
    return found


def answer_of_power(question, word, many):
    """The answer of this WORD so many times, however many they are."""
    path, again = course(0, lambda state: led(question[0], state, word))
    return question[1][come_behind(path, again, many)]


def is_flaw(question, thing):
    """Whether thing is a FLAW of it."""
    if not isinstance(thing, tuple) or len(thing) != 3 or not is_ring(wide_of(question), thing[1]):
        return False
    kind, word, other = thing
    if kind == "turn":
        return is_ring(wide_of(question), other) and answer(question, word + other) != answer(question, other + word)
    if kind == "power":
        return is_number(other) and other >= 2 and answer(question, word) != answer_of_power(question, word, other)
    return False


def lot_answers(question):
    """The tuple with for each LOT its answer, None if it is not firm."""
    return answers_of_lots(open_order(question))


def ring_answer(question, ring):
    """The answer of ring."""
    open_order(question)
    return answer(question, ring)


def opened(question):
    """The least QUESTION that answers as question does when a WORD is read again and again."""
    order = Order(question)
    if turn_flaw(order) is not None:
        raise Unfit()
    last = [order.answers[order.last_power(place)] for place in range(1, len(order.steps))]
    return least_question((order.steps, (order.answers[0], *last)))
