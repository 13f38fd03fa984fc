"""Goals: what is one, by a book."""

from tacticwright.contexts import are_unlike
from tacticwright.contexts import names_of
from tacticwright.contexts import things_of
from tacticwright.scopes import is_right
from tacticwright.terms import is_name
from tacticwright.terms import word_of


def is_entry(lore, ahead, thing):
    """Whether thing, of anything, is a right entry behind those ahead, as far as names are not compared."""
    word = word_of(thing)
    if word is None or len(thing) != 3 or not is_name(thing[1]):
        return False
    if word == "thing":
        return is_name(thing[2]) and lore.has_kind(thing[2])
    return word == "fact" and is_right(lore, things_of(ahead), [], thing[2])


def is_context(lore, thing):
    """Whether thing, of anything, is a context whose names are unlike, and unlike those of the book's facts."""
    if not isinstance(thing, tuple):
        return False
    for at, entry in enumerate(thing):
        if not is_entry(lore, thing[:at], entry):
            return False
    names = names_of(thing)
    return are_unlike(names) and all([lore.fact(name) is None for name in names])


def is_goal(lore, thing):
    """Whether thing, of anything, is a goal."""
    if not isinstance(thing, tuple) or len(thing) != 2 or not is_context(lore, thing[0]):
        return False
    return is_right(lore, things_of(thing[0]), [], thing[1])
