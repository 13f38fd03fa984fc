"""Plain goals made by a seeded source, and whether they are so, by a slow look over all signs that go together."""

import itertools

from samples import FALSE, atom, call, free, same

ROWS = [
    ("open", "item"),
    ("open", "place"),
    ("kind", "nat", (("Zero", ()), ("Suc", ("nat",)))),
    ("kind", "box", (("Box", ("nat", "item", "item")), ("None", ()))),
    ("given", "f", ("item",), "item"),
    ("given", "g", ("item", "item"), "item"),
    ("given", "at", ("item",), "place"),
    ("given", "many", ("item", "place", "item", "item"), "place"),
    ("given", "spot", (), "item"),
    ("given", "size", ("item",), "nat"),
    ("given", "box", ("nat",), "box"),
    ("short", "ff", ("item",), "item", call("f", call("f", ("bound", 0)))),
    ("atom", "near", ("item", "item")),
    ("atom", "far", ("item", "item")),
    ("atom", "wet", ()),
    ("atom", "dry", ()),
    ("atom", "here", ("place",)),
    ("atom", "rain", ()),
    ("atom", "even", ("nat",)),
    ("taken", "rains", ("atom", "rain", ())),
]
THINGS = (("thing", "x", "item"), ("thing", "y", "item"), ("thing", "z", "item"), ("thing", "p", "place"), ("thing", "q", "place"))


def term(rng, kind, depth):
    if depth == 0 or rng.random() < 0.3:
        leaves = {"item": [free("x"), free("y"), free("z"), call("spot")], "place": [free("p"), free("q")]}
        return rng.choice(leaves[kind])
    if kind == "place":
        if rng.random() < 0.7:
            return call("at", term(rng, "item", depth - 1))
        return call("many", *(term(rng, part, depth - 1) for part in ("item", "place", "item", "item")))
    if rng.random() < 0.6:
        return call("f", term(rng, "item", depth - 1))
    return call("g", term(rng, "item", depth - 1), term(rng, "item", depth - 1))


def saying(rng, depth):
    word = rng.choice(["same", "same", "same", "near", "far", "here", "rain", "wet"])
    if word == "same":
        kind = rng.choice(["item", "item", "place"])
        return same(term(rng, kind, depth), term(rng, kind, depth))
    if word in ("near", "far"):
        return atom(word, term(rng, "item", depth), term(rng, "item", depth))
    return atom("here", term(rng, "place", depth)) if word == "here" else atom(word)


def pooled(rng):
    """Sames and atoms over a few terms, some of which stand within others: such go against one another more often."""
    pool = rng.choice([[free("x")], [free("x"), free("y")], [free("x"), call("spot")]])
    while len(pool) < rng.choice([4, 6, 7, 8]):
        made = rng.choice([call("f", pool[-1]), call("f", rng.choice(pool)), call("g", rng.choice(pool), rng.choice(pool))])
        pool += [made] if made not in pool else []
    made = [same(rng.choice(pool), rng.choice(pool)) for turn in range(4)]
    return [atom(rng.choice(["near", "far"]), X[1], X[2]) if rng.random() < 0.3 else X for X in made]


def join(rng, sayings, depth):
    if depth == 0 or rng.random() < 0.1:
        return rng.choice(sayings * 3 + [FALSE])
    return (rng.choice(["and", "or", "if", "if"]), join(rng, sayings, depth - 1), join(rng, sayings, depth - 1))


def goal(rng):
    """A goal, most often a plain one; many of them are so."""
    sayings = pooled(rng) if rng.random() < 0.6 else [saying(rng, rng.randrange(4)) for turn in range(rng.randrange(1, 5))]
    if rng.random() < 0.3:
        G = join(rng, sayings, rng.randrange(5))
    else:
        G = sayings[-1]
        for X in sayings[:-1]:
            G = ("if", X, G)
    return (THINGS, G)


def parts(thing):
    word = thing[0]
    if word in ("call", "atom"):
        return list(thing[2])
    return list(thing[1:]) if word in ("same", "and", "or", "if") else []


def within(thing):
    """All terms and statements that stand in a thing, itself among them."""
    found = [thing]
    for part in parts(thing):
        found += within(part)
    return found


def go_together(terms, signs):
    """Whether signs, a dict from sames and atoms, are those of some world."""
    pairs = {(t, t) for t in terms} | {(X[1], X[2]) for X in signs if signs[X] and X[0] == "same"}
    many = 0
    while many < len(pairs):
        many = len(pairs)
        pairs |= {(u, t) for t, u in pairs}
        pairs |= {(t, w) for t, u in pairs for v, w in pairs if u == v}
        calls = [t for t in terms if t[0] == "call"]
        pairs |= {(t, u) for t in calls for u in calls if t[1] == u[1] and all(pair in pairs for pair in zip(t[2], u[2]))}
    for X in signs:
        if not signs[X] and X[0] == "same" and (X[1], X[2]) in pairs:
            return False
        for Y in signs:
            if X[0] == Y[0] == "atom" and X[1] == Y[1] and signs[X] != signs[Y] and all(pair in pairs for pair in zip(X[2], Y[2])):
                return False
    return True


def holds(G, signs):
    if G[0] == "false":
        return False
    if G[0] in ("same", "atom"):
        return signs[G]
    left, right = holds(G[1], signs), holds(G[2], signs)
    return {"and": left and right, "or": left or right, "if": not left or right}[G[0]]


def is_so(G):
    """Whether a plain goal's statement holds for all signs of its sames and atoms that go together."""
    inner = within(G)
    sayings = sorted({part for part in inner if part[0] in ("same", "atom")}, key=repr)
    terms = {part for part in inner if part[0] in ("free", "call")}
    for told in itertools.product([True, False], repeat=len(sayings)):
        signs = dict(zip(sayings, told))
        if not holds(G, signs) and go_together(terms, signs):
            return False
    return True


def is_small(G):
    inner = within(G)
    terms = {part for part in inner if part[0] in ("free", "call")}
    return len(inner) <= 60 and len(terms) <= 8 and len({part for part in inner if part[0] in ("same", "atom")}) <= 4
