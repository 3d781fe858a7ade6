"""A desk at which RINGS are walked: requests are worked from top to bottom."""

from roundtold.answerable import open_order, ring_answer
from roundtold.errors import BadText, CanNot, NoPlace, TooMuch, Unfit
from roundtold.judged import wrong
from roundtold.questions import wide_of
from roundtold.rings import check_room, read
from roundtold.safe import may_be_silent, row_to_come, safe, words_to_come
from roundtold.still import answers_left, lots_left, ring_left
from roundtold.sure import sure_of
from roundtold.texts import number_of, read_question, read_ring, read_walker, ring_told
from roundtold.walkers import said_after, settled, wide_walked

FIRST_QUESTION = (((0, 1), (1, 1)), (0, 1))
FIRST_MANY = 2
MOST_FIGURES = 6


def begun(question):
    """What is held at first, with this QUESTION."""
    return {
        "question": question, "ring": (1,), "room": 0, "stretches": ((),), "said": None, "many": FIRST_MANY,
        "walker": None,
    }


def with_question(_, text):
    """What is held behind the request question."""
    question = read_question(text)
    open_order(question)
    return begun(question)


def with_ring(held, text):
    """What is held behind the request ring."""
    ring = read_ring(wide_of(held["question"]), text)
    return {**held, "ring": ring, "room": 0, "stretches": ((),), "said": None}


def with_walker(held, text):
    """What is held behind the request walker."""
    walker = read_walker(text)
    if wide_walked(walker) != wide_of(held["question"]):
        raise Unfit()
    return {**held, "walker": walker}


def gone(held, steps):
    """What is held behind the request go."""
    ring, room, stretches = held["ring"], held["room"], held["stretches"]
    longer = stretches[-1] + read(ring, room, steps)
    return {**held, "room": (room + steps) % len(ring), "stretches": stretches[:-1] + (longer,)}


def begun_in(held, room):
    """What is held behind the request begin."""
    check_room(held["ring"], room)
    return {**held, "room": room, "stretches": held["stretches"] + ((),)}


def with_many(held, many):
    """What is held behind the request may."""
    return {**held, "many": many}


def with_said(held, told):
    """What is held behind the request say."""
    if told == held["said"]:
        return held
    if held["many"] == 0:
        raise CanNot()
    return {**held, "said": told, "many": held["many"] - 1}


def walker_of(held):
    """The WALKER that is held; CanNot if there is none."""
    if held["walker"] is None:
        raise CanNot()
    return held["walker"]


def room_of(held, _):
    """The reply to room."""
    return held["room"]


def many_of(held, _):
    """The reply to words."""
    return held["many"]


def said_of(held, _):
    """The reply to said."""
    return held["said"]


def left_of(held, _):
    """The reply to left."""
    return lots_left(held["question"], held["stretches"])


def answers_of(held, _):
    """The reply to answers."""
    return answers_left(held["question"], held["stretches"])


def sure_now(held, _):
    """The reply to sure."""
    return sure_of(held["question"], held["stretches"])


def to_come(held, _):
    """The reply to come."""
    return words_to_come(held["question"], held["stretches"], held["said"])


def safe_now(held, _):
    """The reply to safe."""
    return safe(held["question"], held["stretches"], held["said"], held["many"])


def silent_now(held, _):
    """The reply to silent."""
    return "yes" if may_be_silent(held["question"], held["stretches"], held["said"], held["many"]) else "no"


def trap_of(held, _):
    """The reply to trap."""
    row = row_to_come(held["question"], held["stretches"], held["said"])
    if row == ():
        raise CanNot()
    return ring_told(ring_left(held["question"], held["stretches"], row[0]))


def answer_of(held, _):
    """The reply to answer."""
    return ring_answer(held["question"], held["ring"])


def played_by(held, steps):
    """The reply to plays."""
    return said_after(walker_of(held), held["ring"], held["room"], steps)


def settled_of(held, _):
    """The reply to settles."""
    return settled(walker_of(held), held["ring"], held["room"])


def wrong_of(held, _):
    """The reply to wrong."""
    return ring_told(wrong(held["question"], walker_of(held)))


TEXT_DEEDS = {"question": with_question, "ring": with_ring, "walker": with_walker}
NUMBER_DEEDS = {"go": gone, "begin": begun_in, "may": with_many, "say": with_said}
NUMBER_ASKS = {"plays": played_by}
ASKS = {
    "room": room_of, "words": many_of, "said": said_of, "left": left_of, "answers": answers_of, "sure": sure_now,
    "come": to_come, "safe": safe_now, "silent": silent_now, "trap": trap_of, "answer": answer_of,
    "settles": settled_of, "wrong": wrong_of,
}


def reply_of(value):
    """The reply that tells this value: a number, numbers, nothing, or a text."""
    if value is None or value == ():
        return "-"
    return " ".join([str(number) for number in value]) if isinstance(value, tuple) else str(value)


class Desk:
    """What is held, and all deeds that were done and not taken back, each with what was held ahead of it."""

    def __init__(self):
        self.held = begun(FIRST_QUESTION)
        self.deeds = []

    def undo(self):
        """Takes the last deed back and tells its word."""
        if len(self.deeds) == 0:
            raise CanNot()
        word, self.held = self.deeds.pop()
        return word

    def work(self, word, told):
        """The reply to a request, behind what it does; told is its text, its number, or None."""
        if word == "undo":
            return self.undo()
        if word in ASKS or word in NUMBER_ASKS:
            ask = ASKS[word] if word in ASKS else NUMBER_ASKS[word]
            return reply_of(ask(self.held, told))
        deed = TEXT_DEEDS[word] if word in TEXT_DEEDS else NUMBER_DEEDS[word]
        ahead = self.held
        # A deed that is refused raises here: nothing is changed by then.
        self.held = deed(ahead, told)
        self.deeds.append((word, ahead))
        return "done"

    def reply(self, word, told):
        """The reply to a request, also to one that is refused."""
        try:
            return self.work(word, told)
        except BadText:
            return "refused BadText"
        except CanNot:
            return "refused CanNot"
        except NoPlace:
            return "refused NoPlace"
        except TooMuch:
            return "refused TooMuch"
        except Unfit:
            return "refused Unfit"


def parted(text):
    """The list of the triples (number of the first line, this line, lines of the text) of all requests."""
    found = []
    lines = text.split("\n") if text != "" else []
    for number, line in enumerate(lines, start=1):
        if line.startswith(" ") and len(found) > 0:
            found[-1][2].append(line[1:])
        else:
            found.append((number, line, []))
    return found


def understood(line, rows):
    """The pair of the word of a request and its text, its number, or None; None if this is no request."""
    word, blank, rest = line.partition(" ")
    if len(rows) > 0:
        return (word, "\n".join(rows)) if blank == "" and word in TEXT_DEEDS else None
    if blank == "":
        return (word, None) if word in ASKS or word == "undo" else None
    number = number_of(rest, MOST_FIGURES)
    return (word, number) if number is not None and (word in NUMBER_DEEDS or word in NUMBER_ASKS) else None


def understood_all(text):
    """The list of these pairs for all requests of text; BadText for the first that is none."""
    found = []
    for number, line, rows in parted(text):
        request = understood(line, rows)
        if request is None:
            raise BadText(number)
        found.append(request)
    return found


def desk(text):
    """The list of the replies to all requests of text."""
    requests = understood_all(text)
    own = Desk()
    return [own.reply(word, told) for word, told in requests]


def is_request(thing):
    """Whether thing is a string that is one request."""
    if not isinstance(thing, str):
        return False
    requests = parted(thing)
    return len(requests) == 1 and understood(requests[0][1], requests[0][2]) is not None
