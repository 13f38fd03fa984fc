"""What a reason puts behind for those within, what it wants of their statements, and what it bears out.

Each function takes the look at a reason, its own names, terms and statements being right, and goes by the statements
told so far of the reasons within. What is wrong is refused with NoReason, NoTerm, TooLong or TooGreat.
"""

from tacticwright.contexts import form_of
from tacticwright.contexts import known
from tacticwright.contexts import part_things
from tacticwright.ownlooks import want
from tacticwright.reckoning import reckoned
from tacticwright.scopes import kind_of
from tacticwright.scopes import look
from tacticwright.statements import closed
from tacticwright.statements import negated
from tacticwright.statements import opened
from tacticwright.terms import alike
from tacticwright.terms import has_free


def into_entries(at, k):
    return [("fact", at.p[1], at.p[2])]


def each_entries(at, k):
    return [("thing", at.p[1], at.p[2])]


def cases_entries(at, k):
    if k == 0:
        return []
    return [("fact", at.p[2 * k], at.told[0][k])]


def take_entries(at, k):
    if k == 0:
        return []
    x, h = at.p[2], at.p[3]
    word, K, A = at.told[0]
    return [("thing", x, K), ("fact", h, opened(A, ("free", x)))]


def induct_row_entries(K, kinds, xs, hs, A):
    """The things xs, of these kinds, and the facts hs, the body A opened with each part of kind K."""
    parts = [x for x, kind in zip(xs, kinds) if kind == K]
    return part_things(xs, kinds) + [("fact", h, opened(A, ("free", x))) for x, h in zip(parts, hs)]


def induct_entries(at, k):
    word, K, A, rows = at.p
    kinds = at.lore.forms(K)[k][1]
    return induct_row_entries(K, kinds, rows[k][0], rows[k][1], A)


def forms_row_entries(t, C, kinds, xs, h):
    """The things xs, of these kinds, and the fact h that t is the form C of them."""
    return part_things(xs, kinds) + [("fact", h, ("same", t, form_of(C, xs)))]


def forms_entries(at, k):
    word, t, rows = at.p
    C, kinds = at.lore.forms(kind_of(at.lore, at.things, [], t))[k]
    return forms_row_entries(t, C, kinds, rows[k][0], rows[k][1])


ENTRIES = {
    "into": into_entries,
    "each": each_entries,
    "cases": cases_entries,
    "take": take_entries,
    "induct": induct_entries,
    "forms": forms_entries,
}


def entries_for(at, k):
    """The list of the entries put behind for the k-th reason within."""
    if at.p[0] not in ENTRIES:
        return []
    tell = ENTRIES[at.p[0]]
    return tell(at, k)


def want_give(at, k):
    if k == 0:
        want(at.told[0][0] == "if")
    else:
        want(alike(at.told[1], at.told[0][1]))


def want_at(at, k):
    want(at.told[0][0] == "all" and at.told[0][1] == kind_of(at.lore, at.things, [], at.p[2]))


def want_and(at, k):
    want(at.told[0][0] == "and")


def want_cases(at, k):
    if k == 0:
        want(at.told[0][0] == "or")
    if k == 2:
        want(alike(at.told[2], at.told[1]))


def want_with(at, k):
    want(alike(at.told[0], opened(at.p[2], at.p[1])))


def want_take(at, k):
    if k == 0:
        want(at.told[0][0] == "some")
    want(not has_free(at.told[k], [at.p[2]]))


def want_false(at, k):
    want(at.told[0] == ("false",))


def want_swap(at, k):
    if k == 0:
        want(at.told[0][0] == "same")
        look(at.lore, at.things, [kind_of(at.lore, at.things, [], at.told[0][1])], at.p[2])
    else:
        want(alike(at.told[1], opened(at.p[2], at.told[0][1])))


def are_forms(told):
    """Whether a statement is a same of two forms."""
    return told[0] == "same" and told[1][0] == "form" and told[2][0] == "form"


def want_unlike(at, k):
    want(are_forms(at.told[0]) and at.told[0][1][1] != at.told[0][2][1])


def want_inner(at, k):
    want(are_forms(at.told[0]) and at.told[0][1][1] == at.told[0][2][1])
    want(at.p[2] < len(at.told[0][1][2]))


def want_induct(at, k):
    word, K, A, rows = at.p
    want(alike(at.told[k], opened(A, form_of(at.lore.forms(K)[k][0], rows[k][0]))))


def want_forms(at, k):
    want(not has_free(at.told[k], at.p[2][k][0]))
    want(alike(at.told[k], at.told[0]))


def want_reckon(at, k):
    want(alike(reckoned(at.lore, at.told[0]), reckoned(at.lore, at.p[1])))


WANTS = {
    "give": want_give,
    "at": want_at,
    "first": want_and,
    "second": want_and,
    "cases": want_cases,
    "with": want_with,
    "take": want_take,
    "never": want_false,
    "swap": want_swap,
    "unlike": want_unlike,
    "inner": want_inner,
    "induct": want_induct,
    "forms": want_forms,
    "reckon": want_reckon,
}


def want_of(at, k):
    """Looks at the statement of the k-th reason within, which is known now, for what is wanted of it."""
    if at.p[0] in WANTS:
        look_at_told = WANTS[at.p[0]]
        look_at_told(at, k)


def borne_fact(at):
    return known(at.lore, at.context, at.p[1])


def borne_into(at):
    return ("if", at.p[2], at.told[0])


def borne_each(at):
    return ("all", at.p[2], closed(at.told[0], at.p[1]))


def borne_at(at):
    return opened(at.told[0][2], at.p[2])


def borne_both(at):
    return ("and", at.told[0], at.told[1])


def first_side(at):
    return at.told[0][1]


def second_side(at):
    return at.told[0][2]


def borne_left(at):
    return ("or", at.told[0], at.p[2])


def borne_right(at):
    return ("or", at.p[1], at.told[0])


def told_first(at):
    return at.told[0]


def told_second(at):
    return at.told[1]


def borne_with(at):
    return ("some", kind_of(at.lore, at.things, [], at.p[1]), at.p[2])


def borne_never(at):
    return at.p[2]


def borne_plain(at):
    return ("same", at.p[1], at.p[1])


def borne_swap(at):
    return opened(at.p[2], at.told[0][2])


def borne_unlike(at):
    return ("false",)


def borne_inner(at):
    word, t, u = at.told[0]
    return ("same", t[2][at.p[2]], u[2][at.p[2]])


def borne_induct(at):
    return ("all", at.p[1], at.p[2])


def borne_sure(at):
    return ("or", at.p[1], negated(at.p[1]))


def borne_reckon(at):
    return at.p[1]


def borne_hole(at):
    return at.aims[at.p[1]][1]


BORNE = {
    "fact": borne_fact,
    "into": borne_into,
    "give": second_side,
    "each": borne_each,
    "at": borne_at,
    "both": borne_both,
    "first": first_side,
    "second": second_side,
    "left": borne_left,
    "right": borne_right,
    "cases": told_second,
    "with": borne_with,
    "take": told_second,
    "never": borne_never,
    "plain": borne_plain,
    "swap": borne_swap,
    "unlike": borne_unlike,
    "inner": borne_inner,
    "induct": borne_induct,
    "forms": told_first,
    "sure": borne_sure,
    "reckon": borne_reckon,
    "hole": borne_hole,
}


def borne_out(at):
    """The statement that a reason bears out, those of all reasons within being known and as they are wanted."""
    tell = BORNE[at.p[0]]
    return tell(at)
