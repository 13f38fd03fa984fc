"""Books made by a seeded source: kinds, functions and words of all sorts, and taken rows."""

import making
from samples import bound

NAMES = ["a", "b", "c", "d", "e", "f", "g", "h", "k", "m"]


def kinds_of(rows):
    return [row[1] for row in rows if row[0] in ("open", "kind")]


def some_kinds(rng, rows, most):
    return tuple(rng.choice(kinds_of(rows)) for turn in range(rng.randrange(most + 1)))


def term_of(rng, rows, kinds, kind, depth):
    """A term of this kind by bounds of these kinds; None where the rows make none."""
    try:
        return making.term(rng, rows, {}, list(kinds), kind, depth)
    except (IndexError, RecursionError):
        return None


def kind_row(rng, rows, name):
    forms = []
    for k in range(rng.randrange(1, 4)):
        kinds = some_kinds(rng, rows, 2) if rows else ()
        if k > 0:
            kinds = tuple(name if rng.random() < 0.6 else kind for kind in kinds) or rng.choice([(), (name,)])
        forms.append(("ABCD"[k] + name, kinds))
    return ("kind", name, tuple(forms))


def rule_term(rng, rows, f, kinds, parts, others, kind):
    """A term of a rule, which may call itself by a part of its first kind."""
    inner = [k for k, part in enumerate(parts) if part == kinds[0]]
    if inner and rng.random() < 0.7:
        args = [term_of(rng, rows, parts + others, one, 1) for one in others]
        if None not in args:
            made = ("call", f, (bound(rng.choice(inner)),) + tuple(args))
            forms = [name for row in rows if row[0] == "kind" and row[1] == kind for name, of in row[2] if of == (kind,)]
            return ("form", rng.choice(forms), (made,)) if forms and rng.random() < 0.7 else made
    return term_of(rng, rows, parts + others, kind, 2)


def rule_row(rng, rows, name):
    made = [row for row in rows if row[0] == "kind"]
    if not made:
        return None
    first = rng.choice(made)
    others = some_kinds(rng, rows, 1)
    kind = rng.choice(kinds_of(rows))
    kinds = (first[1],) + others
    terms = tuple(rule_term(rng, rows, name, kinds, parts, others, kind) for C, parts in first[2])
    return None if None in terms else ("rule", name, kinds, kind, terms)


def short_row(rng, rows, name):
    kinds, kind = some_kinds(rng, rows, 2), rng.choice(kinds_of(rows))
    t = term_of(rng, rows, kinds, kind, 2)
    return None if t is None else ("short", name, kinds, kind, t)


def rows(rng, taken=True):
    """The rows of a book."""
    made = [("open", "o"), ("given", "oo", (), "o")] if rng.random() < 0.7 else []
    made.append(("kind", "n", (("Z", ()), ("S", ("n",)))))
    for name in NAMES[:rng.randrange(2)]:
        made.append(kind_row(rng, made, name))
    for name in NAMES[:rng.randrange(2, 6)]:
        word = rng.choice(["given", "short", "rule", "rule"])
        row = {"given": lambda: ("given", name, some_kinds(rng, made, 2), rng.choice(kinds_of(made))),
               "short": lambda: short_row(rng, made, name), "rule": lambda: rule_row(rng, made, name)}[word]()
        made += [row] if row is not None else []
    for name in NAMES[:rng.randrange(1, 4)]:
        made.append(("atom", name, some_kinds(rng, made, 2)))
    if taken:
        for name in ("ta", "tb")[:rng.randrange(3)]:
            made.append(("taken", name, making.statement(rng, made, {}, [], rng.randrange(3))))
    return made
