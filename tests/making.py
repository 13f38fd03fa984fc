"""Right terms, statements and worlds made by a seeded source, for tests over many of them."""

import slow
from samples import bound, free


def forms_of(rows, kind):
    found = [row[2] for row in rows if row[0] == "kind" and row[1] == kind]
    return found[0] if found else None


def term(rng, rows, things, inner, kind, depth):
    """A term of this kind, by the frees of things and the bounds of inner."""
    leaves = [free(x) for x in things if things[x] == kind] + [bound(k) for k in range(len(inner)) if inner[k] == kind]
    if leaves and (depth <= 0 or rng.random() < 0.25):
        return rng.choice(leaves)
    calls = [(("call", row[1]), row[2]) for row in rows if row[0] in ("given", "short", "rule") and row[3] == kind]
    forms = [(("form", name), kinds) for name, kinds in forms_of(rows, kind) or ()]
    if depth <= 0:
        plain = [one for one in forms[:1] + calls if not one[1]] or forms[:1] or calls[:1]
        head, kinds = rng.choice(plain)
    else:
        head, kinds = rng.choice(forms + calls)
    return head + (tuple(term(rng, rows, things, inner, part, depth - 1) for part in kinds),)


def statement(rng, rows, things, inner, depth):
    """A right statement, by the frees of things and the bounds of inner."""
    kinds = [row[1] for row in rows if row[0] in ("open", "kind")]
    words = [row for row in rows if row[0] == "atom"]
    word = rng.choice(["false", "same", "same", "atom"] if depth <= 0 else ["same", "atom", "and", "or", "if", "all", "some", "all", "some"])
    if word == "false" or word == "atom" and not words:
        return ("false",)
    if word == "same":
        kind = rng.choice(kinds)
        return ("same", term(rng, rows, things, inner, kind, 2), term(rng, rows, things, inner, kind, 2))
    if word == "atom":
        row = rng.choice(words)
        return ("atom", row[1], tuple(term(rng, rows, things, inner, kind, 2) for kind in row[2]))
    if word in ("all", "some"):
        kind = rng.choice(kinds)
        return (word, kind, statement(rng, rows, things, [kind] + inner, depth - 1))
    return (word, statement(rng, rows, things, inner, depth - 1), statement(rng, rows, things, inner, depth - 1))


def world(rng, rows):
    """A world with tables of a few rows each."""
    sizes = {row[1]: rng.randrange(1, 4) for row in rows if row[0] == "open"}

    def some_of(kind):
        return rng.choice(slow.values(rows, sizes, kind, 3)[:40])

    def table(kinds, told):
        return ({tuple(some_of(kind) for kind in kinds): told() for turn in range(rng.randrange(6))}, told())
    tables, truths = {}, {}
    for row in rows:
        if row[0] == "given":
            tables[row[1]] = table(row[2], lambda: some_of(row[3]))
        if row[0] == "atom":
            truths[row[1]] = table(row[2], lambda: rng.random() < 0.5)
    return (sizes, tables, truths)
