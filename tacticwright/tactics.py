"""Tactics: what comes of one at a goal, rows of tactics among them."""

from tacticwright.cases import CASES
from tacticwright.cases import cases_met
from tacticwright.errors import NoTactic
from tacticwright.needs import need
from tacticwright.plain import plain_met
from tacticwright.reasons import holes_filled
from tacticwright.reasons import is_great_reason
from tacticwright.rewriting import turn_met
from tacticwright.settling import settle_met
from tacticwright.tacticparts import is_tactic_node
from tacticwright.terms import is_great

MOST_AGAIN = 100


def tried(lore, goal, tactic):
    """What comes of a tactic, None where it fails."""
    try:
        return met(lore, goal, tactic)
    except NoTactic:
        return None


def then_met(lore, goal, tactic):
    word, a, b = tactic
    between, p = met(lore, goal, a)
    come = []
    fillings = []
    for one in between:
        more, q = met(lore, one, b)
        fillings.append(holes_filled(q, [("hole", len(come) + k) for k in range(len(more))]))
        come.extend(more)
    return come, holes_filled(p, fillings)


def first_met(lore, goal, tactic):
    for a in tactic[1]:
        told = tried(lore, goal, a)
        if told is not None:
            return told
    raise NoTactic()


def try_met(lore, goal, tactic):
    return tried(lore, goal, tactic[1]) or ([goal], ("hole", 0))


def again_met(lore, goal, tactic):
    # Pending are goals to go at, with no reason, and reasons whose holes, so many, are filled by what was made last.
    pending = [(goal, None, 0)]
    come = []
    made = []
    done = 0
    while pending:
        one, p, many = pending.pop()
        if p is not None:
            at = len(made) - many
            made[at:] = [holes_filled(p, made[at:])]
            continue
        told = tried(lore, one, tactic[1])
        if told is None:
            made.append(("hole", len(come)))
            come.append(one)
        else:
            done += 1
            need(done <= MOST_AGAIN)
            pending.append((None, told[1], len(told[0])))
            pending.extend([(more, None, 0) for more in reversed(told[0])])
    return come, made[0]


def done_met(lore, goal, tactic):
    raise NoTactic()


ROWS = {"then": then_met, "first": first_met, "try": try_met, "again": again_met, "done": done_met}


def is_within_bounds(goal, come):
    """Whether the statement of a goal that comes, and the facts put behind in it, are no greater than may be."""
    said = [come[1]] + [entry[2] for entry in come[0][len(goal[0]):] if entry[0] == "fact"]
    return not any([is_great(A) for A in said])


def one_met(lore, goal, tactic):
    """What comes of a tactic that is no row of others."""
    if tactic[0] == "turn":
        come, p = turn_met(lore, goal, tactic)
    elif tactic[0] in CASES:
        come, p = cases_met(lore, goal, tactic)
    elif tactic[0] == "settle":
        come, p = settle_met(lore, goal, tactic)
    else:
        come, p = plain_met(lore, goal, tactic)
    need(all([is_within_bounds(goal, one) for one in come]))
    return come, p


def met(lore, goal, tactic):
    """The list of the goals that come of a tactic, of anything, and a reason with holes for them, or NoTactic."""
    need(is_tactic_node(tactic))
    if tactic[0] in ROWS:
        meet = ROWS[tactic[0]]
        come, p = meet(lore, goal, tactic)
    else:
        come, p = one_met(lore, goal, tactic)
    need(not is_great_reason(p))
    return come, p
