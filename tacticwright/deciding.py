"""Deciding: whether a statement without all, some and free is so, by reckoning alone, and a reason of it or its not."""

from tacticwright.errors import Stuck
from tacticwright.reckoning import reckoned
from tacticwright.signs import refuted
from tacticwright.signs import settling_name
from tacticwright.signs import shown
from tacticwright.signs import truth_by
from tacticwright.signs import unlike_in
from tacticwright.statements import negated
from tacticwright.terms import alike


def way_to_unlike(t, u):
    """The way, by numbers of args, to where two terms have unlike forms, or None; all forms on the way are one."""
    pending = [((), t, u)]
    while pending:
        way, one, other = pending.pop()
        if one[0] == "form" and other[0] == "form":
            if one[1] != other[1]:
                return way
            pairs = list(zip(one[2], other[2]))
            pending.extend([(way + (k,), pairs[k][0], pairs[k][1]) for k in reversed(range(len(pairs)))])
    return None


def sign_by_reckoning(lore, X):
    """The sign of a same, with a reason of it or of its not; None where reckoning doesn't tell it."""
    told = reckoned(lore, X)
    word, t, u = told
    if alike(t, u):
        return (X, True, ("reckon", X, ("plain", X[1])))
    way = way_to_unlike(t, u)
    if way is None:
        return None
    h = settling_name(0)
    p = ("reckon", told, ("fact", h))
    for k in way:
        p = ("inner", p, k)
    return (X, False, ("into", h, X, ("unlike", p)))


def decided(lore, A):
    """A reason of or A (not A), made of one of its sides; Stuck where reckoning doesn't tell which is so."""
    signs = [sign_by_reckoning(lore, X) for X in unlike_in(A, ("same",))]
    signs = [sign for sign in signs if sign is not None]
    so = truth_by(signs, A)
    if so is True:
        return ("left", shown(signs, A, 0), negated(A))
    if so is False:
        h = settling_name(0)
        return ("right", A, ("into", h, A, refuted(signs, A, ("fact", h), 1)))
    raise Stuck()
