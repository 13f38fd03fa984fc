"""Goals and tactics made by a seeded source, such as often go and sometimes fail."""

import making
from looksamples import CONTEXT, RAIN, X, Y, even
from samples import ZERO, call, same, suc

NAMES = ["m", "o", "q", "s", "t", "v", "ma", "mb", "mc", "md", "me", "mf", "mg", "mh", "mi", "mj", "mk", "ml"]


def goal(rng, rows, depth=3):
    """A goal whose context is a part of the samples', the names of things going ahead."""
    things = [entry for entry in CONTEXT if entry[0] == "thing"]
    facts = [entry for entry in CONTEXT if entry[0] == "fact" and rng.random() < 0.5]
    kinds = {entry[1]: entry[2] for entry in things}
    more = [("fact", name, making.statement(rng, rows, kinds, [], rng.randrange(3))) for name in ("g", "h")[:rng.randrange(3)]]
    more.append(("fact", "j", even(call("add", suc(ZERO), making.term(rng, rows, kinds, [], "nat", 1)))))
    G = making.statement(rng, rows, kinds, [], rng.randrange(depth + 1))
    if rng.random() < 0.2:
        G = rng.choice([even(Y), even(suc(X)), same(X, Y), ("if", RAIN, same(Y, X)), even(call("add", X, Y))])
    return (tuple(things + facts + more), G)


def new_names(rng, context, many):
    """So many names, most often new ones."""
    there = [entry[1] for entry in context]
    fresh = [name for name in NAMES if name not in there]
    if rng.random() < 0.05 or len(fresh) < many:
        return tuple(rng.choice(NAMES + there) for turn in range(many))
    return tuple(rng.sample(fresh, many))


def said_of(goal, rows):
    """The dict from the names of the facts at hand to their statements."""
    told = {row[1]: row[2] for row in rows if row[0] in ("taken", "reasoned")}
    told.update({entry[1]: entry[2] for entry in goal[0] if entry[0] == "fact"})
    return told


def rows_for(rng, context, forms, kind, facts):
    made = []
    for name, kinds in forms:
        many = len([one for one in kinds if one == kind]) if facts else 1
        names = new_names(rng, context, len(kinds) + many)
        made.append((names[:len(kinds)], names[len(kinds):] if facts else names[-1]))
    return tuple(made)


def terms_for(rng, rows, kinds, told):
    """Terms for some of the first alls of a statement."""
    ts = []
    while told[0] == "all" and rng.random() < 0.9:
        ts.append(making.term(rng, rows, kinds, [], told[1], rng.randrange(2)))
        told = told[2]
    return tuple(ts)


def tactic(rng, rows, goal):
    """A tactic that is no row of others."""
    context, G = goal
    kinds = {entry[1]: entry[2] for entry in context if entry[0] == "thing"}
    said = said_of(goal, rows)
    h = rng.choice(sorted(said))
    told = said[h]
    names = new_names(rng, context, 2)
    fit = {"if": [("into", names[0])], "all": [("into", names[0])], "and": [("both",)], "or": [("left",), ("right",)],
           "some": [("with", making.term(rng, rows, kinds, [], G[1], 1))] if G[0] == "some" else [], "same": [("plain",)]}
    apart = {"and": names, "or": names, "some": names, "false": ()}
    choices = list(fit.get(G[0], [])) * 3
    choices += [("by", one) for one in sorted(said) if said[one] == G] * 5
    choices += [("use", rng.choice(["c", "r", "sames", "evens", h]), ()), ("tidy", "j", names[0])]
    choices[-2] = choices[-2][:2] + (terms_for(rng, rows, kinds, said.get(choices[-2][1], told)),)
    choices += [("have", names[0], making.statement(rng, rows, kinds, [], 1)),
                ("back", rng.choice(context)[1]), ("reckon",), ("tidy", h, names[0]), ("unlike", h), ("plain",),
                ("apart", h, apart.get(told[0], names)), ("inner", h, names[:1]), ("inner", h, names),
                ("turn", h, terms_for(rng, rows, kinds, told), rng.choice(["on", "back"])),
                ("sure", making.statement(rng, rows, kinds, [], rng.randrange(2)), names[0], names[1])]
    made_kinds = [kind for kind in ("nat", "list", "pair") if making.forms_of(rows, kind)]
    kind = rng.choice(made_kinds)
    choices.append(("cases", making.term(rng, rows, kinds, [], kind, 1), rows_for(rng, context, making.forms_of(rows, kind), kind, False)))
    xs = [x for x in kinds if kinds[x] in made_kinds]
    if xs:
        x = rng.choice(xs)
        choices.append(("induct", x, rows_for(rng, context, making.forms_of(rows, kinds[x]), kinds[x], True)))
    return rng.choice(choices)


def row(rng, rows, goal, depth):
    """A tactic, perhaps a row of others."""
    word = rng.choice(["then", "then", "first", "try", "again", "done", "one", "one"]) if depth > 0 else "one"
    if word == "one":
        return tactic(rng, rows, goal)
    if word == "done":
        return ("done",)
    if word == "first":
        return ("first", tuple(row(rng, rows, goal, depth - 1) for turn in range(rng.randrange(4))))
    return (word,) + tuple(row(rng, rows, goal, depth - 1) for turn in range(2 if word == "then" else 1))
