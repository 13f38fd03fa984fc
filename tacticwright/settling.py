"""Settling: a plain goal's reason, or a world where it is False.

The sames and atoms of the goal are taken as so and as not so, one behind the other, till the signs go against one
another or tell whether the goal is so; at most four of them, so there are but few ways.
"""

from tacticwright.contexts import things_of
from tacticwright.goals import is_goal
from tacticwright.merging import Merging
from tacticwright.needs import need
from tacticwright.needs import with_facts
from tacticwright.scopes import kind_of
from tacticwright.signs import SIGNED_WORDS
from tacticwright.signs import settling_name
from tacticwright.signs import shown
from tacticwright.signs import truth_by
from tacticwright.signs import unlike_in
from tacticwright.terms import TERM_WORDS
from tacticwright.terms import nodes
from tacticwright.terms import parts_of
from tacticwright.terms import with_parts
from tacticwright.termworlds import term_world
from tacticwright.termworlds import thing_values

MOST_PLAIN_NODES = 60
MOST_SIGNED = 4
MOST_TERMS = 8
PLAIN_GOAL_WORDS = ("false", "same", "atom", "and", "or", "if", "free", "call")


def are_plain_words(A):
    """Whether a statement is made of the words of a plain goal alone."""
    pending = [A]
    while pending:
        part = pending.pop()
        if part[0] not in PLAIN_GOAL_WORDS:
            return False
        pending.extend(parts_of(part))
    return True


def is_plain_term(lore, things, t):
    """Whether a right term is of an open kind, and a free or a call of a given function."""
    if t[0] == "call" and lore.function(t[1])[0] != "given":
        return False
    return lore.forms(kind_of(lore, things, [], t)) is None


def is_plain(lore, goal):
    """Whether a goal is a plain one."""
    if not is_goal(lore, goal):
        return False
    context, G = goal
    if not all([entry[0] == "thing" and lore.forms(entry[2]) is None for entry in context]):
        return False
    if nodes(G) > MOST_PLAIN_NODES or not are_plain_words(G):
        return False
    terms = unlike_in(G, TERM_WORDS)
    if len(terms) > MOST_TERMS or len(unlike_in(G, SIGNED_WORDS)) > MOST_SIGNED:
        return False
    return all([is_plain_term(lore, things_of(context), t) for t in terms])


def merged(terms, signs):
    """The terms merged by the sames among signs that are so."""
    merging = Merging(terms)
    for X, so, p in signs:
        if so and X[0] == "same":
            one, other = merging.numbers(X)
            merging.bind(one, other, p)
    return merging


def spread(merging):
    """Merges the calls whose args are the same; the list of the facts (name, same, reason) that tell it."""
    facts = []
    pair = merging.next_alike()
    while pair is not None:
        one, other = pair
        h = settling_name(MOST_SIGNED + len(facts))
        facts.append((h, ("same", merging.terms[one], merging.terms[other]), merging.call_reason(one, other)))
        merging.bind(one, other, ("fact", h))
        pair = merging.next_alike()
    return facts


def against(merging, signs, denied):
    """A reason of a same or an atom that is denied, by the terms merged and the atoms that are so; None without any."""
    wanted = merging.numbers(denied)
    if denied[0] == "same":
        one, other = wanted
        return merging.same_reason(one, other) if merging.are_one([one], [other]) else None
    for X, so, p in signs:
        if so and X[0] == "atom" and X[1] == denied[1] and merging.are_one(merging.numbers(X), wanted):
            return merging.moved(lambda parts: with_parts(denied, parts), merging.numbers(X), wanted, p)
    return None


def clash(merging, signs):
    """A reason of false by signs that go against one another, None where they go together."""
    for X, so, p in signs:
        q = None if so else against(merging, signs, X)
        if q is not None:
            return ("give", p, q)
    return None


def countered(lore, things, merging, signs):
    """A world, and values of the things, in which signs that go together are as they tell."""
    kinds = [kind_of(lore, things, [], t) for t in merging.terms]
    atoms = [X for X, so, p in signs if so and X[0] == "atom"]
    return ("world", term_world(lore, merging, kinds, atoms), thing_values(merging, kinds, things))


def settled_by(lore, goal, terms, signs, rest):
    """What is told of a goal by signs, a list, and by the sames and atoms that have none yet."""
    G = goal[1]
    merging = merged(terms, signs)
    facts = spread(merging)
    p = clash(merging, signs)
    if p is not None:
        return ("reason", ("never", with_facts(facts, p), G))
    so = truth_by(signs, G)
    if so is True:
        return ("reason", shown(signs, G, MOST_SIGNED))
    if so is False:
        return countered(lore, things_of(goal[0]), merging, signs)
    X = rest[0]
    h = settling_name(len(signs))
    made = []
    for sign in (True, False):
        told = settled_by(lore, goal, terms, signs + [(X, sign, ("fact", h))], rest[1:])
        if told[0] == "world":
            return told
        made.append(told[1])
    return ("reason", ("cases", ("sure", X), h, made[0], h, made[1]))


def settled(lore, goal):
    """A plain goal settled: a reason of it, or a world, with values of its things, where it is False."""
    G = goal[1]
    return settled_by(lore, goal, unlike_in(G, TERM_WORDS), [], unlike_in(G, SIGNED_WORDS))


def settle_met(lore, goal, tactic):
    """No goal, and a reason, of a plain goal that is so."""
    need(is_plain(lore, goal))
    told = settled(lore, goal)
    need(told[0] == "reason")
    return [], told[1]
