"""Texts of RINGS, STRETCHES, QUESTIONS, WALKERS, PROMISES and FOGS."""

from roundtold.errors import BadText
from roundtold.fog import is_fog
from roundtold.rings import is_ring, is_word
from roundtold.values import GREATEST_WIDE, are_answers

MOST_FIGURES = 12
SIGNS = "<=>"


def line_of(head, values):
    """The line of these values behind its first word."""
    return " ".join([head] + [str(own) for own in values])


def ring_told(ring):
    """The text of a RING."""
    return line_of("ring", ring)


def stretches_told(stretches):
    """The text of STRETCHES."""
    return "\n".join([line_of("stretch", word) for word in stretches])


def question_told(question):
    """The text of a QUESTION."""
    steps, answers = question
    return "\n".join(["question"] + [line_of("state", [told, *row]) for told, row in zip(answers, steps)])


def walker_told(walker):
    """The text of a WALKER."""
    lines = ["walker"]
    for row, told in zip(walker[0], walker[1]):
        ways = [str(state) + SIGNS[way + 1] for state, way in row]
        lines.append(line_of("state", ["-" if told is None else told] + ways))
    return "\n".join(lines)


def promise_told(promise):
    """The text of a PROMISE."""
    question, answers = promise
    return line_of("promise", answers) + "\n" + question_told(question)


def fog_told(fog):
    """The text of a FOG."""
    return line_of("fog", fog)


def lines_of(text):
    """The list of the lines of text; the empty string has none."""
    return text.split("\n") if text != "" else []


def number_of(word, most):
    """The number that word tells in at most so many figures, without a needless 0 ahead; None if it tells none so."""
    if not 1 <= len(word) <= most or not word.isascii() or not word.isdigit() or (word[0] == "0" and len(word) > 1):
        return None
    return int(word)


def check_line(line, so):
    """BadText of this line if it is not so."""
    if not so:
        raise BadText(line)


def words_at(lines, line, head):
    """The words behind the head in this line, counted from 1; BadText if it is wanting or has another head."""
    check_line(line, line <= len(lines))
    words = lines[line - 1].split(" ")
    check_line(line, words[0] == head)
    return words[1:]


def number_at(line, word):
    """The number that a word of this line tells."""
    number = number_of(word, MOST_FIGURES)
    check_line(line, number is not None)
    return number


def numbers_at(lines, line, head):
    """The tuple of the numbers that stand behind the first word in this line."""
    return tuple([number_at(line, word) for word in words_at(lines, line, head)])


def said_at(line, word):
    """The ANSWER that a word of this line tells, None for -."""
    return None if word == "-" else number_at(line, word)


def way_at(line, word):
    """The pair (STATE, way) that a word of this line tells."""
    sign = word[-1:]
    check_line(line, sign in ("<", "=", ">"))
    return number_at(line, word[:-1]), SIGNS.index(sign) - 1


def read_states(lines, line, head, told_at, step_at):
    """The pair of the steps and of what is told of each STATE, from this line on, which is that of the head."""
    check_line(line, words_at(lines, line, head) == [])
    steps, told = [], []
    for own in range(line + 1, len(lines) + 1):
        words = words_at(lines, own, "state")
        wide = len(words) - 1
        check_line(own, 1 <= wide <= GREATEST_WIDE and (len(steps) == 0 or wide == len(steps[0])))
        told.append(told_at(own, words[0]))
        steps.append(tuple([step_at(own, word) for word in words[1:]]))
    check_line(len(lines) + 1, len(steps) > 0)
    return tuple(steps), tuple(told)


def check_states(lines, steps, states):
    """BadText of the line behind the last one if a STATE among these has no line."""
    check_line(len(lines) + 1, max(states) < len(steps))


def read_question_at(lines, line):
    """The QUESTION that is told from this line on."""
    steps, answers = read_states(lines, line, "question", number_at, number_at)
    check_states(lines, steps, [state for row in steps for state in row])
    return steps, answers


def read_ring(wide, text):
    """The RING of letters to wide that text tells."""
    lines = lines_of(text)
    ring = numbers_at(lines, 1, "ring")
    check_line(1, is_ring(wide, ring))
    check_line(2, len(lines) == 1)
    return ring


def read_stretches(wide, text):
    """The STRETCHES of letters to wide that text tells."""
    lines = lines_of(text)
    check_line(1, len(lines) > 0)
    stretches = []
    for line in range(1, len(lines) + 1):
        stretches.append(numbers_at(lines, line, "stretch"))
        check_line(line, is_word(wide, stretches[-1]))
    return tuple(stretches)


def read_question(text):
    """The QUESTION that text tells."""
    return read_question_at(lines_of(text), 1)


def read_walker(text):
    """The WALKER that text tells."""
    lines = lines_of(text)
    steps, says = read_states(lines, 1, "walker", said_at, way_at)
    check_states(lines, steps, [state for row in steps for state, _ in row])
    return steps, says


def read_promise(text):
    """The pair of a QUESTION, open to walkers or not, and ANSWERS that text tells."""
    lines = lines_of(text)
    answers = numbers_at(lines, 1, "promise")
    check_line(1, are_answers(answers))
    return read_question_at(lines, 2), answers


def read_fog(text):
    """The FOG that text tells."""
    lines = lines_of(text)
    fog = numbers_at(lines, 1, "fog")
    check_line(1, 1 <= len(fog) <= GREATEST_WIDE and is_fog(len(fog), fog))
    check_line(2, len(lines) == 1)
    return fog
