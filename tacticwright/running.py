"""Running: closed reasons that go on by steps at their head till they are made ones.

The head of a reason is found by going into what it takes apart, again and again. There stands a reason that tells
what comes by itself (a fact, a sure, a forms), or a made one, which goes out together with what takes it apart.
"""

from tacticwright.deciding import decided
from tacticwright.errors import Stuck
from tacticwright.errors import TooGreat
from tacticwright.errors import TooLong
from tacticwright.looker import still_borne
from tacticwright.putting import put_in
from tacticwright.putting import without_own_name
from tacticwright.reasons import is_great_reason
from tacticwright.reasons import reasons_in
from tacticwright.reasons import reasons_of
from tacticwright.reasons import with_reasons
from tacticwright.reckoning import reckoned
from tacticwright.statements import opened
from tacticwright.terms import alike

MOST_RUN_STEPS = 1000
APART_WORDS = ("give", "at", "first", "second", "cases", "take", "never", "swap", "unlike", "inner")


def with_head(p, q):
    """A reason with q in the place of what it takes apart."""
    return with_reasons(p, [q] + reasons_in(p)[1:])


def reckoned_form(lore, t):
    """The form that t reckons to, and the number of this form among those of its kind; Stuck where it is none."""
    told = reckoned(lore, t)
    if told[0] != "form":
        raise Stuck()
    names = [pair[0] for pair in lore.forms(lore.form(told[1])[0])]
    return (told, names.index(told[1]))


def told_as(lore, A, B, p):
    """A reason of A, made of a reason p of a B that reckons to the same; refused where one goes beyond reckoning."""
    if alike(A, B):
        return p
    reckoned(lore, A)
    reckoned(lore, B)
    return ("reckon", A, p)


def terms_put_in(lore, p, terms, fillings):
    """A reason with terms for things and reasons for facts; by the terms a reckon within may go beyond its bounds."""
    made = put_in(p, terms, fillings)
    has_reckon = any([part[0] == "reckon" for part in reasons_of(p)])
    return still_borne(lore, made) if has_reckon and len(terms) > 0 else made


def from_fact(lore, p):
    row = lore.fact(p[1])
    if row[0] == "taken":
        raise Stuck()
    # Its reason was looked at ahead of the row itself: there its name could be put behind, here it can't.
    return without_own_name(row[3], p[1])


def from_sure(lore, p):
    return decided(lore, p[1])


def from_forms(lore, p):
    word, t, rows = p
    told, at = reckoned_form(lore, t)
    xs, h, q = rows[at]
    return terms_put_in(lore, q, dict(zip(xs, told[2])), {h: ("reckon", ("same", t, told), ("plain", t))})


ALONE = {"fact": from_fact, "sure": from_sure, "forms": from_forms}


def give_out(lore, p, made):
    word, h, A, q = made
    return put_in(q, {}, {h: p[2]})


def each_out(lore, made, t):
    word, x, K, q = made
    return terms_put_in(lore, q, {x: t}, {})


def induct_out(lore, made, t):
    word, K, A, rows = made
    told, at = reckoned_form(lore, t)
    xs, hs, q = rows[at]
    kinds = lore.forms(K)[at][1]
    again = [("at", made, part) for part, kind in zip(told[2], kinds) if kind == K]
    come = terms_put_in(lore, q, dict(zip(xs, told[2])), dict(zip(hs, again)))
    return told_as(lore, opened(A, t), opened(A, told), come)


def at_out(lore, p, made):
    return each_out(lore, made, p[2]) if made[0] == "each" else induct_out(lore, made, p[2])


def first_out(lore, p, made):
    return made[1]


def second_out(lore, p, made):
    return made[2]


def cases_out(lore, p, made):
    if made[0] == "left":
        return put_in(p[3], {}, {p[2]: made[1]})
    return put_in(p[5], {}, {p[4]: made[2]})


def take_out(lore, p, made):
    word, t, A, q = made
    return terms_put_in(lore, p[4], {p[2]: t}, {p[3]: q})


def swap_out(lore, p, made):
    return p[3]


def inner_out(lore, p, made):
    return ("plain", made[1][2][p[2]])


OUT = {
    "give": give_out,
    "at": at_out,
    "first": first_out,
    "second": second_out,
    "cases": cases_out,
    "take": take_out,
    "swap": swap_out,
    "inner": inner_out,
}


def give_inward(lore, p, A, made):
    return ("reckon", A[2], ("give", made, ("reckon", made[2], p[2])))


def at_inward(lore, p, A, made):
    return still_borne(lore, ("reckon", opened(A[2], p[2]), ("at", made, p[2])))


def first_inward(lore, p, A, made):
    return ("reckon", A[1], ("first", made))


def second_inward(lore, p, A, made):
    return ("reckon", A[2], ("second", made))


def cases_inward(lore, p, A, made):
    if made[0] == "left":
        return with_head(p, ("left", ("reckon", A[1], made[1]), A[2]))
    return with_head(p, ("right", A[1], ("reckon", A[2], made[2])))


def take_inward(lore, p, A, made):
    word, t, B, q = made
    return with_head(p, ("with", t, A[2], told_as(lore, opened(A[2], t), opened(B, t), q)))


def swap_inward(lore, p, A, made):
    return told_as(lore, opened(p[2], A[2]), opened(p[2], A[1]), p[3])


def inner_inward(lore, p, A, made):
    t, u = A[1][2][p[2]], A[2][2][p[2]]
    return ("reckon", ("same", t, u), ("plain", t))


INWARD = {
    "give": give_inward,
    "at": at_inward,
    "first": first_inward,
    "second": second_inward,
    "cases": cases_inward,
    "take": take_inward,
    "swap": swap_inward,
    "inner": inner_inward,
}


def to_head(p):
    """The list of the reasons around the head of a reason, from outside, and the one that stands there."""
    around = []
    part = p
    while part[0] == "reckon" or part[0] in APART_WORDS:
        around.append(part)
        part = reasons_in(part)[0]
    return (around, part)


def put_back(around, q):
    """A reason q with those around it, a list, put around it again."""
    made = q
    for p in reversed(around):
        made = with_head(p, made)
    return made


def reckons_in_row(around):
    """The number of the first reckon in a list behind which another stands, None where there is none."""
    for k in range(len(around) - 1):
        if around[k][0] == "reckon" and around[k + 1][0] == "reckon":
            return k
    return None


def gone_out(lore, around, made):
    """What comes of a made reason at the head and of what stands straight around it, None where nothing comes."""
    shell = around.pop() if around and around[-1][0] == "reckon" else None
    if len(around) == 0:
        return None
    p = around.pop()
    if shell is None:
        out = OUT[p[0]]
        return put_back(around, out(lore, p, made))
    inward = INWARD[p[0]]
    return put_back(around, inward(lore, p, shell[1], made))


def step(book, reason):
    """The reason a step behind one that the looker takes with no context and no goals, None where it goes none."""
    around, part = to_head(reason)
    k = reckons_in_row(around)
    if k is not None:
        made = put_back(around[:k], ("reckon", around[k][1], around[k + 1][2]))
    elif part[0] in ALONE:
        come_of = ALONE[part[0]]
        made = put_back(around, come_of(book, part))
    else:
        made = gone_out(book, around, part)
    if made is not None and is_great_reason(made):
        raise TooGreat()
    return made


def ran(book, reason):
    """The made reason, perhaps within one reckon, that a reason comes to."""
    made = reason
    for turn in range(MOST_RUN_STEPS + 1):
        come = step(book, made)
        if come is None:
            return made
        made = come
    raise TooLong()


def made_of(p):
    """The made reason that a run came to, without the reckon that may stand around it."""
    return p[2] if p[0] == "reckon" else p


def witness(book, reason):
    """The term, reckoned, of the with that a reason of a some comes to."""
    return reckoned(book, made_of(ran(book, reason))[1])
