"""One judge: CLAIMS about QUESTIONS and WALKERS, and PAPERS for and against them."""

from roundtold.answerable import flaw, is_flaw
from roundtold.errors import CanNot, NoPlace, Unfit
from roundtold.few import is_unserved, unserved
from roundtold.judged import is_pump, is_wrong, most_words, pump, wrong
from roundtold.questions import answer, is_question, parting, wide_of
from roundtold.rings import is_ring, is_word
from roundtold.safe import is_row_to_come, row_to_come
from roundtold.still import is_ring_left, ring_left
from roundtold.values import is_answer, is_number
from roundtold.walkers import goes_on, is_said, is_walker, wide_walked

# A PAPER for these shows something, of all others one against them does; () is the other one.
SHOWN_IF_SO = ("left", "come")


def tupled(value):
    """value with tuples for lists, at any depth."""
    return tuple([tupled(part) for part in value]) if isinstance(value, (list, tuple)) else value


def are_stretches(wide, thing):
    """Whether thing is STRETCHES of letters to wide."""
    return isinstance(thing, tuple) and len(thing) > 0 and all([is_word(wide, word) for word in thing])


def are_read(question, stretches):
    """Whether these are a QUESTION and STRETCHES of its letters."""
    return is_question(question) and are_stretches(wide_of(question), stretches)


def is_goer(thing):
    """Whether thing is a WALKER that goes on."""
    return is_walker(thing) and goes_on(thing)


def is_claim(thing):
    """Whether thing is a CLAIM."""
    if not isinstance(thing, tuple):
        return False
    match thing:
        case ("open", question):
            return is_question(question)
        case ("alike", one, other):
            return is_question(one) and is_question(other) and wide_of(one) == wide_of(other)
        case ("left", question, stretches, lot):
            return are_read(question, stretches) and is_answer(lot)
        case ("come", question, stretches, said, many):
            return are_read(question, stretches) and is_said(said) and is_answer(many)
        case ("served", question, stretches, many):
            return are_read(question, stretches) and is_answer(many)
        case ("right", question, walker):
            return is_question(question) and is_goer(walker) and wide_walked(walker) == wide_of(question)
        case ("most", walker, many):
            return is_goer(walker) and is_answer(many)
        case _:
            return False


def checked(claim):
    """The CLAIM with tuples for lists; Unfit if it is none."""
    own = tupled(claim)
    if not is_claim(own):
        raise Unfit()
    return own


def all_checked(claims):
    """The list of these CLAIMS with tuples for lists; Unfit if one is none."""
    return [checked(claim) for claim in claims]


def long_row(row, many):
    """The ROW if it has so many LOTS; else None."""
    return row if len(row) >= many else None


def other_most(walker, many):
    """What shows that the greatest number of words is not many; None if it is."""
    most = most_words(walker)
    if most == many:
        return None
    return pump(walker) if most is None else most


def shown(claim):
    """What shows that the CLAIM is so, or that it is not so, whichever is not told by (); None if nothing does."""
    try:
        match claim:
            case ("open", question):
                return flaw(question)
            case ("alike", one, other):
                return parting(one, other)
            case ("left", question, stretches, lot):
                return ring_left(question, stretches, lot)
            case ("come", question, stretches, said, many):
                return long_row(row_to_come(question, stretches, said), many)
            case ("served", question, stretches, many):
                return unserved(question, many, stretches)
            case ("right", question, walker):
                return wrong(question, walker), 0
            case ("most", walker, many):
                return other_most(walker, many)
    except (CanNot, NoPlace):
        return None


def is_shown_by(claim, thing):
    """Whether thing shows that the CLAIM is so, or that it is not so, as shown tells."""
    match claim:
        case ("open", question):
            return is_flaw(question, thing)
        case ("alike", one, other):
            return is_ring(wide_of(one), thing) and answer(one, thing) != answer(other, thing)
        case ("left", question, stretches, lot):
            return is_ring_left(question, stretches, lot, thing)
        case ("come", question, stretches, said, many):
            return is_row_to_come(question, stretches, said, thing) and len(thing) >= many
        case ("served", question, stretches, many):
            return is_unserved(question, many, stretches, thing)
        case ("right", question, walker):
            return is_wrong(question, walker, thing)
        case ("most", walker, _):
            most = most_words(walker)
            return is_pump(walker, thing) if most is None else is_number(thing) and thing == most


def weighed(claim):
    """The pair of whether the CLAIM is so and a PAPER, for it or against it."""
    found = shown(claim)
    so = (found is not None) == (claim[0] in SHOWN_IF_SO)
    return so, () if found is None else found


def verdict(claim, thing):
    """Whether thing is a PAPER for the CLAIM, one against it, or none, as a word."""
    so, _ = weighed(claim)
    is_paper = is_shown_by(claim, thing) if so == (claim[0] in SHOWN_IF_SO) else thing == ()
    if not is_paper:
        return "none"
    return "for" if so else "against"


def is_so(claim):
    """Whether the CLAIM is so."""
    so, _ = weighed(checked(claim))
    return so


def paper(claim):
    """A PAPER for the CLAIM if it is so, otherwise one against it."""
    _, found = weighed(checked(claim))
    return found


def is_paper_for(claim, thing):
    """Whether thing is a PAPER for the CLAIM."""
    return verdict(checked(claim), thing) == "for"


def is_paper_against(claim, thing):
    """Whether thing is a PAPER against the CLAIM."""
    return verdict(checked(claim), thing) == "against"


def verdicts(claims, things):
    """The list with for each CLAIM and the thing at its place the word that tells what it is."""
    own = all_checked(claims)
    if len(own) != len(things):
        raise Unfit()
    return [verdict(claim, thing) for claim, thing in zip(own, things)]


def alike_by(question, claims):
    """The list of the QUESTIONS that by these CLAIMS come to be told alike to this one, it too if there are others."""
    found = []
    reached = [question]
    while len(reached) > 0:
        one = reached.pop()
        pairs = [claim[1:] for claim in claims if claim[0] == "alike"]
        for other in [pair[1] for pair in pairs if pair[0] == one] + [pair[0] for pair in pairs if pair[1] == one]:
            if other not in found:
                found.append(other)
                reached.append(other)
    return found


def are_among(parts, all_parts):
    """Whether each of these stands among all of them."""
    return all([part in all_parts for part in parts])


def is_less(claim, other):
    """Whether the CLAIM comes of the other one alone, what was read or how many words being less or more there."""
    if claim[:2] != other[:2]:
        return False
    if claim[0] == "left":
        return claim[3] == other[3] and are_among(claim[2], other[2])
    if claim[0] == "come":
        return claim[3] == other[3] and claim[4] <= other[4] and are_among(claim[2], other[2])
    return claim[0] == "served" and claim[3] >= other[3] and are_among(other[2], claim[2])


def comes_of(claim, claims):
    """Whether the CLAIM comes of these ones."""
    own = checked(claim)
    others = all_checked(claims)
    if own in others:
        return True
    if own[0] == "alike":
        return own[2] in alike_by(own[1], others)
    if own[0] in ("open", "right"):
        return any([(own[0], twin) + own[2:] in others for twin in alike_by(own[1], others)])
    return any([is_less(own, other) for other in others])


def first_false(claims):
    """The first place whose CLAIM is not so; None if all are."""
    for place, claim in enumerate(all_checked(claims)):
        so, _ = weighed(claim)
        if not so:
            return place
    return None
