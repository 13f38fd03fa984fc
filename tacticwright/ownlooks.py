"""A reason's own names, terms and statements, looked at ahead of the reasons within.

What is wrong is refused with NoReason or NoTerm, without a place: the looker knows where it stands.
"""

from tacticwright.contexts import are_alike_contexts
from tacticwright.contexts import are_unlike
from tacticwright.contexts import known
from tacticwright.errors import NoReason
from tacticwright.reasons import facts_in
from tacticwright.reasons import has_reason_word
from tacticwright.reasons import is_part
from tacticwright.reasons import sorted_parts
from tacticwright.scopes import kind_of
from tacticwright.scopes import look
from tacticwright.statements import is_bindless
from tacticwright.terms import has_free
from tacticwright.terms import is_count
from tacticwright.terms import is_name


def want(so):
    """Refuses what isn't as it is wanted."""
    if not so:
        raise NoReason()


def own_part(at, sort, part):
    """Looks at what stands behind the word of a reason, but for bodies, rows and reasons."""
    if sort == "h" or sort == "x":
        want(is_name(part))
    elif sort == "K":
        want(is_name(part) and at.lore.has_kind(part))
    elif sort == "number":
        want(is_count(part))
    elif sort == "term":
        kind_of(at.lore, at.things, [], part)
    elif sort == "statement":
        look(at.lore, at.things, [], part)


def own_fact(at):
    want(known(at.lore, at.context, at.p[1]) is not None)


def own_with(at):
    word, t, A, p = at.p
    look(at.lore, at.things, [kind_of(at.lore, at.things, [], t)], A)


def own_rows(at, sort, K, rows):
    """Looks at the numbers of rows and of names in them, told by the forms of the kind K, which is to be made."""
    forms = at.lore.forms(K)
    want(forms is not None and is_part(sort, rows) and len(rows) == len(forms))
    for (C, kinds), row in zip(forms, rows):
        want(len(row[0]) == len(kinds))


def own_induct(at):
    word, K, A, rows = at.p
    look(at.lore, at.things, [K], A)
    own_rows(at, "induct rows", K, rows)
    for (C, kinds), (xs, hs, p) in zip(at.lore.forms(K), rows):
        want(len(hs) == kinds.count(K))
        want(are_unlike(xs + hs) and not has_free(A, xs))


def own_forms(at):
    word, t, rows = at.p
    own_rows(at, "forms rows", kind_of(at.lore, at.things, [], t), rows)
    for xs, h, p in rows:
        want(are_unlike(xs + (h,)) and not has_free(t, xs))


def own_sure(at):
    want(is_bindless(at.p[1]))


def own_hole(at):
    n = at.p[1]
    want(at.aims is not None and n < len(at.aims))
    want(are_alike_contexts(at.context, at.aims[n][0]))


OWN = {
    "fact": own_fact,
    "with": own_with,
    "induct": own_induct,
    "forms": own_forms,
    "sure": own_sure,
    "hole": own_hole,
}


def look_at_own(at):
    """Looks at all that is a reason's own; a swap's body waits till its kind is known."""
    want(has_reason_word(at.p))
    for sort, part in sorted_parts(at.p):
        own_part(at, sort, part)
    if at.p[0] in OWN:
        look_further = OWN[at.p[0]]
        look_further(at)
    want(all([at.lore.fact(h) is None for h in facts_in(at.p)]))
