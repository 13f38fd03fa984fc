"""The tactics cases, induct and sure: each tells the goals that come and a reason with holes for them."""

from tacticwright.bearing import forms_row_entries
from tacticwright.bearing import induct_row_entries
from tacticwright.contexts import form_of
from tacticwright.contexts import things_of
from tacticwright.needs import need
from tacticwright.needs import need_new
from tacticwright.needs import need_right
from tacticwright.needs import needed_forms
from tacticwright.needs import needed_kind
from tacticwright.needs import with_entries
from tacticwright.statements import closed
from tacticwright.statements import is_bindless
from tacticwright.statements import negated
from tacticwright.statements import opened


def by_forms(lore, goal, tactic):
    word, t, rows = tactic
    forms = needed_forms(lore, needed_kind(lore, goal, t))
    need(len(rows) == len(forms))
    come = []
    told = []
    for (C, kinds), (xs, h) in zip(forms, rows):
        need(len(xs) == len(kinds))
        need_new(lore, goal, xs + (h,))
        told.append((xs, h, ("hole", len(come))))
        come.append(with_entries(goal, forms_row_entries(t, C, kinds, xs, h)))
    return come, ("forms", t, tuple(told))


def by_induction(lore, goal, tactic):
    context, G = goal
    word, x, rows = tactic
    K = things_of(context).get(x)
    forms = needed_forms(lore, K)
    need(len(rows) == len(forms))
    A = closed(G, x)
    come = []
    told = []
    for (C, kinds), (xs, hs) in zip(forms, rows):
        need(len(xs) == len(kinds) and len(hs) == kinds.count(K))
        need_new(lore, goal, xs + hs)
        told.append((xs, hs, ("hole", len(come))))
        entries = induct_row_entries(K, kinds, xs, hs, A)
        come.append((context + tuple(entries), opened(A, form_of(C, xs))))
    return come, ("at", ("induct", K, A, tuple(told)), ("free", x))


def by_sure(lore, goal, tactic):
    word, A, h, g = tactic
    need_right(lore, goal, A)
    need(is_bindless(A))
    need_new(lore, goal, (h, g))
    come = [with_entries(goal, [("fact", h, A)]), with_entries(goal, [("fact", g, negated(A))])]
    return come, ("cases", ("sure", A), h, ("hole", 0), g, ("hole", 1))


CASES = {"cases": by_forms, "induct": by_induction, "sure": by_sure}


def cases_met(lore, goal, tactic):
    """The goals that come of a tactic of these words and of right parts, and a reason with holes for them."""
    meet = CASES[tactic[0]]
    return meet(lore, goal, tactic)
