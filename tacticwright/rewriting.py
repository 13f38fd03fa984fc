"""Rewriting: one term for another in a statement, told by steps of one place each, and the tactic turn.

A way is a place in a statement: by the numbers of its parts, and on by those of the args of its terms.
"""

from tacticwright.needs import need
from tacticwright.needs import opened_fact
from tacticwright.terms import BIND_WORDS
from tacticwright.terms import alike
from tacticwright.terms import parts_of
from tacticwright.terms import with_place


def ways_to(A, t):
    """The list of the ways to t in a statement, from the left, each with the number of alls and somes around it."""
    found = []
    pending = [((), A, 0)]
    while pending:
        way, part, depth = pending.pop()
        if alike(part, t):
            found.append((way, depth))
        else:
            inmost = depth + 1 if part[0] in BIND_WORDS else depth
            parts = parts_of(part)
            pending.extend([(way + (k,), parts[k], inmost) for k in reversed(range(len(parts)))])
    return found


def walk(A, t, u):
    """The list of the statements from A on till u stands wherever t stood, one place changed from each to the next."""
    told = [A]
    for way, depth in ways_to(A, t):
        told.append(with_place(told[-1], way, u))
    return told


def marked(A, t):
    """The body that is A where it is opened with t, its bound standing wherever t stands in A."""
    made = A
    for way, depth in ways_to(A, t):
        made = with_place(made, way, ("bound", depth))
    return made


def swapped(t, p):
    """A reason of same u t, made of one of same t u."""
    return ("swap", p, ("same", ("bound", 0), t), ("plain", t))


def turn_met(lore, goal, tactic):
    """The goal that comes of a turn of right parts, and a reason with a hole for it."""
    context, G = goal
    word, h, ts, way = tactic
    told, p = opened_fact(lore, goal, h, ts)
    need(told[0] == "same" and not alike(told[1], told[2]))
    t, u = (told[1], told[2]) if way == "on" else (told[2], told[1])
    turned = walk(G, t, u)
    need(len(turned) > 1)
    # The swap goes from the goal that comes, with u, to the one at hand, with t.
    q = swapped(t, p) if way == "on" else p
    return [(context, turned[-1])], ("swap", q, marked(G, t), ("hole", 0))
