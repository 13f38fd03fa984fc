"""The plain tactics: each tells, of a goal and of itself, the goals that come and a reason with holes for them."""

from tacticwright.bearing import are_forms
from tacticwright.needs import need
from tacticwright.needs import need_new
from tacticwright.needs import need_of_kind
from tacticwright.needs import need_right
from tacticwright.needs import needed_fact
from tacticwright.needs import needed_reckoned
from tacticwright.needs import opened_fact
from tacticwright.needs import with_entries
from tacticwright.needs import with_facts
from tacticwright.statements import closed
from tacticwright.statements import opened
from tacticwright.terms import alike


def into(lore, goal, tactic):
    context, G = goal
    x = tactic[1]
    need(G[0] == "if" or G[0] == "all")
    need_new(lore, goal, (x,))
    if G[0] == "if":
        return [(context + (("fact", x, G[1]),), G[2])], ("into", x, G[1], ("hole", 0))
    return [(context + (("thing", x, G[1]),), opened(G[2], ("free", x)))], ("each", x, G[1], ("hole", 0))


def by(lore, goal, tactic):
    need(alike(needed_fact(lore, goal, tactic[1]), goal[1]))
    return [], ("fact", tactic[1])


def use(lore, goal, tactic):
    context, G = goal
    word, h, ts = tactic
    told, p = opened_fact(lore, goal, h, ts)
    come = []
    while not alike(told, G):
        need(told[0] == "if")
        p = ("give", p, ("hole", len(come)))
        come.append((context, told[1]))
        told = told[2]
    return come, p


def have(lore, goal, tactic):
    context, G = goal
    word, h, A = tactic
    need_new(lore, goal, (h,))
    need_right(lore, goal, A)
    come = [(context, A), with_entries(goal, [("fact", h, A)])]
    return come, with_facts([(h, A, ("hole", 0))], ("hole", 1))


def back(lore, goal, tactic):
    context, G = goal
    named = [entry for entry in context if entry[1] == tactic[1]]
    need(len(named) == 1)
    word, x, told = named[0]
    if word == "fact":
        return [(context, ("if", told, G))], ("give", ("hole", 0), ("fact", x))
    return [(context, ("all", told, closed(G, x)))], ("at", ("hole", 0), ("free", x))


def both(lore, goal, tactic):
    context, G = goal
    need(G[0] == "and")
    return [(context, G[1]), (context, G[2])], ("both", ("hole", 0), ("hole", 1))


def left(lore, goal, tactic):
    context, G = goal
    need(G[0] == "or")
    return [(context, G[1])], ("left", ("hole", 0), G[2])


def right(lore, goal, tactic):
    context, G = goal
    need(G[0] == "or")
    return [(context, G[2])], ("right", G[1], ("hole", 0))


def with_term(lore, goal, tactic):
    context, G = goal
    t = tactic[1]
    need(G[0] == "some")
    need_of_kind(lore, goal, t, G[1])
    return [(context, opened(G[2], t))], ("with", t, G[2], ("hole", 0))


def and_apart(goal, h, told, names):
    word, A, B = told
    come = with_entries(goal, [("fact", names[0], A), ("fact", names[1], B)])
    facts = [(names[0], A, ("first", ("fact", h))), (names[1], B, ("second", ("fact", h)))]
    return [come], with_facts(facts, ("hole", 0))


def some_apart(goal, h, told, names):
    word, K, A = told
    x, g = names
    come = with_entries(goal, [("thing", x, K), ("fact", g, opened(A, ("free", x)))])
    return [come], ("take", ("fact", h), x, g, ("hole", 0))


def or_apart(goal, h, told, names):
    word, A, B = told
    come = [with_entries(goal, [("fact", names[0], A)]), with_entries(goal, [("fact", names[1], B)])]
    return come, ("cases", ("fact", h), names[0], ("hole", 0), names[1], ("hole", 1))


def false_apart(goal, h, told, names):
    return [], ("never", ("fact", h), goal[1])


APART = {"and": and_apart, "some": some_apart, "or": or_apart, "false": false_apart}


def apart(lore, goal, tactic):
    word, h, names = tactic
    told = needed_fact(lore, goal, h)
    need(told[0] in APART)
    need(len(names) == (0 if told[0] == "false" else 2))
    need_new(lore, goal, names)
    take_apart = APART[told[0]]
    return take_apart(goal, h, told, names)


def plain(lore, goal, tactic):
    G = goal[1]
    need(G[0] == "same")
    word, t, u = needed_reckoned(lore, G)
    need(alike(t, u))
    return [], ("reckon", G, ("plain", G[1]))


def reckon(lore, goal, tactic):
    context, G = goal
    told = needed_reckoned(lore, G)
    need(not alike(told, G))
    return [(context, told)], ("reckon", G, ("hole", 0))


def tidy(lore, goal, tactic):
    word, h, g = tactic
    fact = needed_fact(lore, goal, h)
    told = needed_reckoned(lore, fact)
    need(not alike(told, fact))
    need_new(lore, goal, (g,))
    facts = [(g, told, ("reckon", told, ("fact", h)))]
    return [with_entries(goal, [("fact", g, told)])], with_facts(facts, ("hole", 0))


def unlike(lore, goal, tactic):
    told = needed_reckoned(lore, needed_fact(lore, goal, tactic[1]))
    need(are_forms(told) and told[1][1] != told[2][1])
    return [], ("never", ("unlike", ("reckon", told, ("fact", tactic[1]))), goal[1])


def inner(lore, goal, tactic):
    word, h, names = tactic
    told = needed_reckoned(lore, needed_fact(lore, goal, h))
    need(are_forms(told) and told[1][1] == told[2][1])
    pairs = list(zip(told[1][2], told[2][2]))
    need(len(pairs) > 0 and len(names) == len(pairs))
    need_new(lore, goal, names)
    p = ("reckon", told, ("fact", h))
    facts = [(names[k], ("same", t, u), ("inner", p, k)) for k, (t, u) in enumerate(pairs)]
    return [with_entries(goal, [("fact", g, A) for g, A, q in facts])], with_facts(facts, ("hole", 0))


PLAIN = {
    "into": into,
    "by": by,
    "use": use,
    "have": have,
    "back": back,
    "both": both,
    "left": left,
    "right": right,
    "with": with_term,
    "apart": apart,
    "plain": plain,
    "reckon": reckon,
    "tidy": tidy,
    "unlike": unlike,
    "inner": inner,
}


def plain_met(lore, goal, tactic):
    """The goals that come of a tactic of these words and of right parts, and a reason with holes for them."""
    meet = PLAIN[tactic[0]]
    return meet(lore, goal, tactic)
