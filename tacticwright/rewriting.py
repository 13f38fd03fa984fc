"""Rewriting: one term for another in a statement, told by steps of one place each, and the tactic turn.

A way is a tuple of numbers, as a place is, but from a statement on: by its parts, and on by the args of its terms.
"""

from tacticwright.needs import need
from tacticwright.needs import opened_fact
from tacticwright.terms import BIND_WORDS
from tacticwright.terms import parts_of
from tacticwright.terms import with_parts


def ways_to(A, t):
    """The list of the ways to t in a statement, from the left, each with the number of alls and somes around it."""
    found = []
    pending = [((), A, 0)]
    while pending:
        way, part, depth = pending.pop()
        if part == t:
            found.append((way, depth))
        else:
            inmost = depth + 1 if part[0] in BIND_WORDS else depth
            parts = parts_of(part)
            pending.extend([(way + (k,), parts[k], inmost) for k in reversed(range(len(parts)))])
    return found


def put_at(A, way, u):
    """The statement A with the term u at the end of a way that is there."""
    around = []
    part = A
    for k in way:
        around.append(part)
        part = parts_of(part)[k]
    made = u
    for k in way[::-1]:
        part = around.pop()
        parts = list(parts_of(part))
        parts[k] = made
        made = with_parts(part, parts)
    return made


def walk(A, t, u):
    """The list of the statements from A on till u stands wherever t stood, one place changed from each to the next."""
    told = [A]
    for way, depth in ways_to(A, t):
        told.append(put_at(told[-1], way, u))
    return told


def marked(A, t):
    """The body that is A where it is opened with t, its bound standing wherever t stands in A."""
    made = A
    for way, depth in ways_to(A, t):
        made = put_at(made, way, ("bound", depth))
    return made


def swapped(t, p):
    """A reason of same u t, made of one of same t u."""
    return ("swap", p, ("same", ("bound", 0), t), ("plain", t))


def turn_met(lore, goal, tactic):
    """The goal that comes of a turn of right parts, and a reason with a hole for it."""
    context, G = goal
    word, h, ts, way = tactic
    told, p = opened_fact(lore, goal, h, ts)
    need(told[0] == "same" and told[1] != told[2])
    t, u = (told[1], told[2]) if way == "on" else (told[2], told[1])
    turned = walk(G, t, u)
    need(len(turned) > 1)
    # The swap goes from the goal that comes, with u, to the one at hand, with t.
    q = swapped(t, p) if way == "on" else p
    return [(context, turned[-1])], ("swap", q, marked(G, t), ("hole", 0))
