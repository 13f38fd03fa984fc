"""Scopes: the kinds of terms, and right statements, by a book."""

from tacticwright.errors import NoTerm
from tacticwright.statements import is_statement
from tacticwright.statements import statements_in
from tacticwright.terms import BIND_WORDS
from tacticwright.terms import folded
from tacticwright.terms import is_term


def told_kinds(lore, part):
    """The kinds of the args of a form or call and its own kind, None where the book tells nothing of it."""
    if part[0] == "form":
        told = lore.form(part[1])
        return None if told is None else (told[1], told[0])
    row = lore.function(part[1])
    return None if row is None else (row[2], row[3])


def made_kind(lore, part, kinds):
    """The kind of a form or call whose args are of these kinds."""
    told = told_kinds(lore, part)
    if told is None or list(told[0]) != kinds:
        raise NoTerm()
    return told[1]


def leaf_kind(things, inner, part):
    if part[0] == "free" and part[1] in things:
        return things[part[1]]
    if part[0] == "bound" and part[1] < len(inner):
        return inner[part[1]]
    raise NoTerm()


def kind_of(lore, things, inner, t):
    """The kind of a term, things being the kinds of its frees and inner those of its bounds."""
    if not is_term(t):
        raise NoTerm()

    def tell(part, depth, made):
        if part[0] == "form" or part[0] == "call":
            return made_kind(lore, part, made)
        return leaf_kind(things, inner, part)
    return folded(t, tell)


def look_at(lore, things, inner, part):
    """Refuses a statement for what is wrong in it outside of the statements within."""
    if part[0] == "same":
        if kind_of(lore, things, inner, part[1]) != kind_of(lore, things, inner, part[2]):
            raise NoTerm()
    if part[0] == "atom":
        row = lore.word(part[1])
        kinds = [kind_of(lore, things, inner, arg) for arg in part[2]]
        if row is None or list(row[2]) != kinds:
            raise NoTerm()
    if part[0] in BIND_WORDS and not lore.has_kind(part[1]):
        raise NoTerm()


def look(lore, things, inner, A):
    """Refuses with NoTerm what is no right statement by a book and scopes."""
    if not is_statement(A):
        raise NoTerm()
    pending = [(A, list(inner))]
    while pending:
        part, around = pending.pop()
        look_at(lore, things, around, part)
        ahead = [part[1]] if part[0] in BIND_WORDS else []
        pending.extend([(one, ahead + around) for one in statements_in(part)])


def is_of_kind(lore, things, inner, t, K):
    """Whether t, of anything, is a right term of kind K."""
    try:
        return kind_of(lore, things, inner, t) == K
    except NoTerm:
        return False


def is_right(lore, things, inner, A):
    """Whether A, of anything, is a right statement."""
    try:
        look(lore, things, inner, A)
    except NoTerm:
        return False
    return True
