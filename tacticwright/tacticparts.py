"""Tactics: their words, and what stands in them."""

from tacticwright.reasons import are_names
from tacticwright.statements import is_statement
from tacticwright.terms import is_name
from tacticwright.terms import is_term
from tacticwright.terms import word_of

WAYS = ("on", "back")

# What stands behind each word: names, terms, statements, tactics, tuples of these, the way of a turn, rows of names.
TACTIC_PARTS = {
    "into": ("name",),
    "by": ("name",),
    "use": ("name", "terms"),
    "have": ("name", "statement"),
    "back": ("name",),
    "both": (),
    "left": (),
    "right": (),
    "with": ("term",),
    "apart": ("name", "names"),
    "plain": (),
    "reckon": (),
    "tidy": ("name", "name"),
    "unlike": ("name",),
    "inner": ("name", "names"),
    "turn": ("name", "terms", "way"),
    "cases": ("term", "cases names"),
    "induct": ("name", "induct names"),
    "sure": ("statement", "name", "name"),
    "then": ("tactic", "tactic"),
    "first": ("tactics",),
    "try": ("tactic",),
    "again": ("tactic",),
    "done": (),
    "settle": (),
}


def is_way(thing):
    return isinstance(thing, str) and thing in WAYS


def is_pair(thing):
    return isinstance(thing, tuple) and len(thing) == 2


def is_cases_row(thing):
    """Whether thing, of anything, is a tuple of names of parts and the name of a fact."""
    return is_pair(thing) and are_names(thing[0]) and is_name(thing[1])


def is_induct_row(thing):
    """Whether thing, of anything, is a tuple of names of parts and names of facts."""
    return is_pair(thing) and are_names(thing[0]) and are_names(thing[1])


def are_terms(thing):
    return isinstance(thing, tuple) and all([is_term(t) for t in thing])


def is_tactic_part(sort, thing):
    """Whether thing, of anything, may stand where a part of this sort is wanted; tactics aren't looked at."""
    if sort == "name":
        return is_name(thing)
    if sort == "names":
        return are_names(thing)
    if sort == "term":
        return is_term(thing)
    if sort == "terms":
        return are_terms(thing)
    if sort == "statement":
        return is_statement(thing)
    if sort == "way":
        return is_way(thing)
    if sort == "cases names":
        return isinstance(thing, tuple) and all([is_cases_row(row) for row in thing])
    if sort == "induct names":
        return isinstance(thing, tuple) and all([is_induct_row(row) for row in thing])
    return sort == "tactic" or isinstance(thing, tuple)


def is_tactic_node(thing):
    """Whether thing, of anything, is a tactic as far as it can be seen without a look at the tactics within."""
    word = word_of(thing)
    if word not in TACTIC_PARTS or len(thing) != len(TACTIC_PARTS[word]) + 1:
        return False
    return all([is_tactic_part(sort, part) for sort, part in zip(TACTIC_PARTS[word], thing[1:])])
