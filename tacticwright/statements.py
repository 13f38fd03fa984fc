"""Statements: what is one, and bodies opened and closed."""

from tacticwright.terms import BIND_WORDS
from tacticwright.terms import JOIN_WORDS
from tacticwright.terms import folded
from tacticwright.terms import is_args
from tacticwright.terms import is_name
from tacticwright.terms import is_term
from tacticwright.terms import leaves_put
from tacticwright.terms import parts_of
from tacticwright.terms import word_of


def is_statement_node(thing):
    """Whether thing is a statement as far as it can be seen without a look at the statements in it."""
    word = word_of(thing)
    if word == "false":
        return len(thing) == 1
    if word is None or len(thing) != 3:
        return False
    if word == "same":
        return is_term(thing[1]) and is_term(thing[2])
    if word == "atom":
        return is_name(thing[1]) and is_args(thing[2]) and all([is_term(arg) for arg in thing[2]])
    if word in BIND_WORDS:
        return is_name(thing[1])
    return word in JOIN_WORDS


def statements_in(A):
    """The statements straight within a statement, from the left."""
    return parts_of(A) if A[0] in JOIN_WORDS or A[0] in BIND_WORDS else ()


def is_statement(thing):
    """Whether thing is a statement, of anything."""
    pending = [thing]
    while pending:
        part = pending.pop()
        if not is_statement_node(part):
            return False
        pending.extend(statements_in(part))
    return True


def is_whole(thing):
    """Whether no bound of a term or statement reaches beyond it."""
    def tell(part, depth, made):
        if part[0] == "bound":
            return part[1] < depth
        return all(made)
    return folded(thing, tell)


def is_bindless(A):
    """Whether no all and no some stands in a statement."""
    pending = [A]
    while pending:
        part = pending.pop()
        if part[0] in BIND_WORDS:
            return False
        pending.extend(statements_in(part))
    return True


def negated(A):
    """The statement not A."""
    return ("if", A, ("false",))


def opened(A, t):
    """The body A with the whole term t in the place of its one bound."""
    def put(leaf, depth):
        return t if leaf == ("bound", depth) else leaf
    return leaves_put(A, put)


def closed(A, x):
    """The whole statement A as a body, in which the bound stands for the free x."""
    def put(leaf, depth):
        return ("bound", depth) if leaf == ("free", x) else leaf
    return leaves_put(A, put)


def free_put(thing, x, t):
    """A term or statement with the whole term t in the place of the free x."""
    def put(leaf, depth):
        return t if leaf == ("free", x) else leaf
    return leaves_put(thing, put)
