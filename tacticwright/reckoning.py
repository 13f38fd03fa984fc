"""Reckoning: the steps of a term, and what it comes to."""

from tacticwright.errors import TooGreat
from tacticwright.errors import TooLong
from tacticwright.terms import TERM_WORDS
from tacticwright.terms import args_put
from tacticwright.terms import at_place
from tacticwright.terms import folded
from tacticwright.terms import is_great
from tacticwright.terms import parts_of
from tacticwright.terms import with_parts
from tacticwright.terms import with_place

MOST_STEPS = 2000


def can_step(lore, t):
    """Whether a term can go a step at its outermost place."""
    if t[0] != "call":
        return False
    row = lore.function(t[1])
    if row is None or row[0] == "given":
        return False
    return row[0] == "short" or t[2][0][0] == "form"


def steps(lore, t):
    """The list of the places at which a term can go a step, in their order."""
    places = []
    pending = [((), t)]
    while pending:
        place, part = pending.pop()
        if can_step(lore, part):
            places.append(place)
        parts = parts_of(part)
        pending.extend([(place + (k,), parts[k]) for k in reversed(range(len(parts)))])
    return places


def rule_term(lore, row, C):
    """The term that the row of a rule tells for the form C."""
    names = [pair[0] for pair in lore.forms(row[2][0])]
    return row[4][names.index(C)]


def step_made(lore, call):
    """What comes in the place of a call that can go a step."""
    row = lore.function(call[1])
    if row[0] == "short":
        return args_put(row[4], call[2])
    word, C, parts = call[2][0]
    return args_put(rule_term(lore, row, C), parts + call[2][1:])


def stepped(lore, t, place):
    """The term t, a step gone at a place at which it can."""
    return with_place(t, place, step_made(lore, at_place(t, place)))


def told_place(lore, t):
    """The place of the told step, None where no step can go."""
    places = steps(lore, t)
    for at, place in enumerate(places):
        # In the order of places those within a place stand right behind it.
        if at + 1 == len(places) or places[at + 1][:len(place)] != place:
            return place
    return None


def turns(lore, t):
    """The list of the terms from t on, each a told step behind the one ahead."""
    told = [t]
    place = told_place(lore, t)
    while place is not None:
        if len(told) > MOST_STEPS:
            raise TooLong()
        made = stepped(lore, told[-1], place)
        if is_great(made):
            raise TooGreat()
        told.append(made)
        place = told_place(lore, made)
    return told


def reckoned(lore, thing):
    """A term or statement, each of its terms reckoned."""
    def tell(part, depth, made):
        if part[0] in TERM_WORDS:
            return turns(lore, part)[-1]
        return with_parts(part, made)
    return folded(thing, tell, TERM_WORDS)
