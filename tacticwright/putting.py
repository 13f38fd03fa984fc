"""Things and facts put for those that a reason goes by.

What is put has no free thing and no free fact, so nothing within a reason can be mistaken for a part of it.
"""

from tacticwright.reasons import STATEMENT_PARTS
from tacticwright.reasons import facts_in
from tacticwright.reasons import reasons_in
from tacticwright.reasons import reasons_of
from tacticwright.reasons import rebuilt
from tacticwright.reasons import sorted_parts
from tacticwright.reasons import with_reasons
from tacticwright.signs import settling_name
from tacticwright.statements import free_put


def names_behind(p):
    """The list of the pairs (names of things, names of facts) put behind for each reason within, from the left."""
    word = p[0]
    if word == "into":
        return [((), (p[1],))]
    if word == "each":
        return [((p[1],), ())]
    if word == "cases":
        return [((), ()), ((), (p[2],)), ((), (p[4],))]
    if word == "take":
        return [((), ()), ((p[2],), (p[3],))]
    if word == "induct":
        return [(xs, hs) for xs, hs, q in p[3]]
    if word == "forms":
        return [(xs, (h,)) for xs, h, q in p[2]]
    return [((), ()) for q in reasons_in(p)]


def without(told, names):
    """A dict without these names."""
    return {name: told[name] for name in told if name not in names}


def terms_put(thing, terms):
    """A term or statement with the terms, a dict, in the places of frees."""
    made = thing
    for x, t in terms.items():
        made = free_put(made, x, t)
    return made


def said_put(p, terms):
    """A reason, its own terms and statements with the terms, a dict, in the places of frees."""
    made = [p[0]]
    for sort, part in sorted_parts(p):
        made.append(terms_put(part, terms) if sort == "term" or sort in STATEMENT_PARTS else part)
    return tuple(made)


def put_in(p, terms, fillings):
    """A reason with terms for things and reasons for facts, both dicts by their names, wherever these aren't hidden."""
    pending = [(p, terms, fillings, False)]
    made = []
    while pending:
        part, ts, ps, ready = pending.pop()
        inner = reasons_in(part)
        if part[0] == "fact":
            made.append(ps.get(part[1], part))
        elif ready:
            at = len(made) - len(inner)
            made[at:] = [with_reasons(said_put(part, ts), made[at:])]
        elif len(ts) == 0 and len(ps) == 0:
            made.append(part)
        else:
            pending.append((part, ts, ps, True))
            scoped = list(zip(inner, names_behind(part)))
            pending.extend([(q, without(ts, xs), without(ps, hs), False) for q, (xs, hs) in reversed(scoped)])
    return made[0]


def name_for(name, h, g):
    return g if name == h else name


def fact_renamed(p, h, g):
    """A reason with g for the name h of a fact, wherever it stands straight in it."""
    made = [p[0]]
    for sort, part in sorted_parts(p):
        if sort == "h":
            made.append(name_for(part, h, g))
        elif sort == "induct rows":
            made.append(tuple([(xs, tuple([name_for(name, h, g) for name in hs]), q) for xs, hs, q in part]))
        elif sort == "forms rows":
            made.append(tuple([(xs, name_for(name, h, g), q) for xs, name, q in part]))
        else:
            made.append(part)
    return tuple(made)


def without_own_name(p, h):
    """A reason that puts no fact h behind: where it does, another name stands for it."""
    parts = reasons_of(p)
    if not any([h in facts_in(part) for part in parts]):
        return p
    # The names within one row are to be unlike, those of things and of facts.
    names = set([name for part in parts for xs, hs in names_behind(part) for name in xs + hs])
    n = 0
    while settling_name(n) in names:
        n += 1
    return rebuilt(p, lambda part: fact_renamed(part, h, settling_name(n)))
