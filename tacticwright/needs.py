"""What tactics need of a goal, a book and the names and terms that they are told: else they fail."""

from tacticwright.bookrows import KEPT_FOR_SETTLING
from tacticwright.contexts import are_unlike
from tacticwright.contexts import known
from tacticwright.contexts import names_of
from tacticwright.contexts import things_of
from tacticwright.errors import NoTactic
from tacticwright.errors import NoTerm
from tacticwright.errors import TooGreat
from tacticwright.errors import TooLong
from tacticwright.reckoning import reckoned
from tacticwright.scopes import is_of_kind
from tacticwright.scopes import is_right
from tacticwright.scopes import kind_of
from tacticwright.statements import opened


def need(so):
    """Fails where it isn't so."""
    if not so:
        raise NoTactic()


def need_new(lore, goal, names):
    """Fails where these aren't new names, unlike one another."""
    there = names_of(goal[0])
    need(are_unlike(names))
    for name in names:
        need(name not in there and lore.fact(name) is None and not name.startswith(KEPT_FOR_SETTLING))


def need_right(lore, goal, A):
    """Fails where A isn't a right statement in the goal's context."""
    need(is_right(lore, things_of(goal[0]), [], A))


def need_of_kind(lore, goal, t, K):
    """Fails where t isn't a right term of kind K in the goal's context."""
    need(is_of_kind(lore, things_of(goal[0]), [], t, K))


def needed_kind(lore, goal, t):
    """The kind of t in the goal's context; fails where it has none."""
    try:
        return kind_of(lore, things_of(goal[0]), [], t)
    except NoTerm:
        raise NoTactic() from None


def needed_forms(lore, K):
    """The forms of a made kind; fails where K is an open one, or None."""
    forms = lore.forms(K)
    need(forms is not None)
    return forms


def needed_fact(lore, goal, h):
    """The statement of the context's or the book's fact h; fails where there is none."""
    told = known(lore, goal[0], h)
    need(told is not None)
    return told


def needed_reckoned(lore, A):
    """A reckoned; fails where it goes beyond the bounds of reckoning."""
    try:
        return reckoned(lore, A)
    except (TooLong, TooGreat):
        raise NoTactic() from None


def opened_fact(lore, goal, h, ts):
    """The statement of the fact h, its first alls opened with the terms ts, and a reason of it."""
    told = needed_fact(lore, goal, h)
    p = ("fact", h)
    for t in ts:
        need(told[0] == "all")
        need_of_kind(lore, goal, t, told[1])
        told = opened(told[2], t)
        p = ("at", p, t)
    return told, p


def with_entries(goal, entries):
    """The goal with entries, a list of such with new names, behind its context."""
    return (goal[0] + tuple(entries), goal[1])


def with_facts(facts, p):
    """A reason p that goes by these facts made one without them; facts is a list of tuples (h, A, a reason of A)."""
    made = p
    for h, A, q in reversed(facts):
        made = ("give", ("into", h, A, made), q)
    return made
