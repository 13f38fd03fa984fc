"""The looker told once more, by plain recursion over the rows of a book, for the tests to hold the program against."""

import slow


class Fault(Exception):

    def __init__(self, place):
        super().__init__(place)
        self.place = place


class Wrong(Exception):
    """A term or statement that isn't right."""


def named(rows, words, name):
    found = [row for row in rows if row[0] in words and row[1] == name]
    return found[0] if found else None


def has_kind(rows, name):
    return slow.is_name(name) and named(rows, ("kind", "open"), name) is not None


def forms_of(rows, kind):
    row = named(rows, ("kind",), kind)
    return None if row is None else list(row[2])


def form_kinds(rows, name):
    for row in rows:
        if row[0] == "kind":
            for pair in row[2]:
                if pair[0] == name:
                    return pair[1], row[1]
    return None


def kind_of(rows, things, inner, t):
    if not slow.is_term(t):
        raise Wrong
    if t[0] == "free":
        if t[1] not in things:
            raise Wrong
        return things[t[1]]
    if t[0] == "bound":
        if t[1] >= len(inner):
            raise Wrong
        return inner[t[1]]
    kinds = tuple(kind_of(rows, things, inner, arg) for arg in t[2])
    if t[0] == "form":
        told = form_kinds(rows, t[1])
    else:
        row = named(rows, ("given", "short", "rule"), t[1])
        told = None if row is None else (row[2], row[3])
    if told is None or told[0] != kinds:
        raise Wrong
    return told[1]


def look(rows, things, inner, A):
    if not slow.is_statement(A):
        raise Wrong
    if A[0] == "same":
        if kind_of(rows, things, inner, A[1]) != kind_of(rows, things, inner, A[2]):
            raise Wrong
    elif A[0] == "atom":
        row = named(rows, ("atom",), A[1])
        if row is None or row[2] != tuple(kind_of(rows, things, inner, arg) for arg in A[2]):
            raise Wrong
    elif A[0] in ("all", "some"):
        if not has_kind(rows, A[1]):
            raise Wrong
        look(rows, things, [A[1]] + inner, A[2])
    elif A[0] != "false":
        look(rows, things, inner, A[1])
        look(rows, things, inner, A[2])


def frees(thing):
    return {leaf[1] for leaf, depth in slow.leaves(thing) if leaf[0] == "free"}


def opened(A, t):
    return slow.mapped(A, lambda leaf, depth: t if leaf == ("bound", depth) else leaf)


def closed(A, x):
    return slow.mapped(A, lambda leaf, depth: ("bound", depth) if leaf == ("free", x) else leaf)


def reckoned(rows, A):
    if A[0] in ("free", "bound", "form", "call"):
        told = slow.turns(rows, A)
        if len(told) > 2001 or any(slow.nodes(t) > 2000 or slow.height(t) > 60 for t in told[1:]):
            raise Wrong
        return told[-1]
    if A[0] == "atom":
        return ("atom", A[1], tuple(reckoned(rows, arg) for arg in A[2]))
    return (A[0],) + tuple(reckoned(rows, part) if isinstance(part, tuple) else part for part in A[1:])


def behind(context, entry):
    """The context with an entry put behind."""
    def stays(one):
        if one[0] == entry[0] and one[1] == entry[1]:
            return False
        return not (entry[0] == "thing" and one[0] == "fact" and entry[1] in frees(one[2]))
    return tuple(one for one in context if stays(one)) + (entry,)


LENGTHS = {"fact": 2, "into": 4, "give": 3, "each": 4, "at": 3, "both": 3, "first": 2, "second": 2, "left": 3, "right": 3, "cases": 6,
           "with": 4, "take": 5, "never": 3, "plain": 2, "swap": 4, "unlike": 2, "inner": 3, "induct": 4, "forms": 3, "sure": 2,
           "reckon": 3, "hole": 2}


class Slow:
    """One reason at its place, with short ways to ask for what is wanted."""

    def __init__(self, rows, context, p, goals, place):
        self.rows, self.context, self.p, self.goals, self.place = rows, context, p, goals, place
        self.things = {entry[1]: entry[2] for entry in context if entry[0] == "thing"}

    def want(self, so):
        if not so:
            raise Fault(self.place)

    def name(self, thing):
        self.want(slow.is_name(thing))

    def new(self, thing):
        self.name(thing)
        self.want(named(self.rows, ("taken", "reasoned"), thing) is None)

    def kind(self, t):
        try:
            return kind_of(self.rows, self.things, [], t)
        except Wrong:
            raise Fault(self.place)

    def right(self, A, inner=()):
        try:
            look(self.rows, self.things, list(inner), A)
        except Wrong:
            raise Fault(self.place)

    def told(self, k, p, *entries):
        context = self.context
        for entry in entries:
            context = behind(context, entry)
        return looked(self.rows, context, p, self.goals, self.place + (k,))

    def rows_of(self, kind, rows, facts):
        forms = forms_of(self.rows, kind)
        self.want(forms is not None and isinstance(rows, tuple) and len(rows) == len(forms))
        for (name, kinds), row in zip(forms, rows):
            self.want(isinstance(row, tuple) and len(row) == 3 and isinstance(row[0], tuple) and len(row[0]) == len(kinds))
            hs = row[1] if facts else (row[1],)
            self.want(isinstance(hs, tuple))
            for x in row[0]:
                self.name(x)
            for h in hs:
                self.new(h)
            self.want(len(set(row[0] + hs)) == len(row[0] + hs))
            self.want(not facts or len(hs) == len([one for one in kinds if one == kind]))
        return list(zip(forms, rows))


def made(name, xs):
    return ("form", name, tuple(("free", x) for x in xs))


def looked(rows, context, p, goals=None, place=()):
    at = Slow(rows, context, p, goals, place)
    at.want(isinstance(p, tuple) and len(p) > 0 and isinstance(p[0], str) and p[0] in LENGTHS and len(p) == LENGTHS[p[0]])
    return globals()["look_" + p[0]](at, *p[1:])


def look_fact(at, h):
    at.name(h)
    for entry in at.context:
        if entry[0] == "fact" and entry[1] == h:
            return entry[2]
    row = named(at.rows, ("taken", "reasoned"), h)
    at.want(row is not None)
    return row[2]


def look_into(at, h, A, p):
    at.new(h)
    at.right(A)
    return ("if", A, at.told(0, p, ("fact", h, A)))


def look_give(at, p, q):
    one = at.told(0, p)
    at.want(one[0] == "if")
    at.want(at.told(1, q) == one[1])
    return one[2]


def look_each(at, x, K, p):
    at.name(x)
    at.want(has_kind(at.rows, K))
    return ("all", K, closed(at.told(0, p, ("thing", x, K)), x))


def look_at(at, p, t):
    kind = at.kind(t)
    one = at.told(0, p)
    at.want(one[0] == "all" and one[1] == kind)
    return opened(one[2], t)


def look_both(at, p, q):
    one = at.told(0, p)
    return ("and", one, at.told(1, q))


def look_first(at, p):
    one = at.told(0, p)
    at.want(one[0] == "and")
    return one[1]


def look_second(at, p):
    one = at.told(0, p)
    at.want(one[0] == "and")
    return one[2]


def look_left(at, p, B):
    at.right(B)
    return ("or", at.told(0, p), B)


def look_right(at, A, p):
    at.right(A)
    return ("or", A, at.told(0, p))


def look_cases(at, p, h, q, g, r):
    at.new(h)
    at.new(g)
    one = at.told(0, p)
    at.want(one[0] == "or")
    left = at.told(1, q, ("fact", h, one[1]))
    at.want(at.told(2, r, ("fact", g, one[2])) == left)
    return left


def look_with(at, t, A, p):
    kind = at.kind(t)
    at.right(A, [kind])
    at.want(at.told(0, p) == opened(A, t))
    return ("some", kind, A)


def look_take(at, p, x, h, q):
    at.name(x)
    at.new(h)
    one = at.told(0, p)
    at.want(one[0] == "some" and x not in frees(one[2]))
    told = at.told(1, q, ("thing", x, one[1]), ("fact", h, opened(one[2], ("free", x))))
    at.want(x not in frees(told))
    return told


def look_never(at, p, A):
    at.right(A)
    at.want(at.told(0, p) == ("false",))
    return A


def look_plain(at, t):
    at.kind(t)
    return ("same", t, t)


def look_swap(at, p, A, q):
    one = at.told(0, p)
    at.want(one[0] == "same")
    at.right(A, [at.kind(one[1])])
    at.want(at.told(1, q) == opened(A, one[1]))
    return opened(A, one[2])


def look_unlike(at, p):
    one = at.told(0, p)
    at.want(one[0] == "same" and one[1][0] == "form" and one[2][0] == "form" and one[1][1] != one[2][1])
    return ("false",)


def look_inner(at, p, k):
    at.want(type(k) is int and k >= 0)
    one = at.told(0, p)
    at.want(one[0] == "same" and one[1][0] == "form" and one[2][0] == "form" and one[1][1] == one[2][1])
    at.want(k < len(one[1][2]))
    return ("same", one[1][2][k], one[2][2][k])


def look_induct(at, K, A, rows):
    at.want(has_kind(at.rows, K))
    at.right(A, [K])
    for k, ((name, kinds), (xs, hs, p)) in enumerate(at.rows_of(K, rows, True)):
        at.want(not frees(A) & set(xs))
    for k, ((name, kinds), (xs, hs, p)) in enumerate(at.rows_of(K, rows, True)):
        things = [("thing", x, kind) for x, kind in zip(xs, kinds)]
        parts = [x for x, kind in zip(xs, kinds) if kind == K]
        facts = [("fact", h, opened(A, ("free", x))) for h, x in zip(hs, parts)]
        at.want(at.told(k, p, *things, *facts) == opened(A, made(name, xs)))
    return ("all", K, A)


def look_forms(at, t, rows):
    kind = at.kind(t)
    for k, ((name, kinds), (xs, h, p)) in enumerate(at.rows_of(kind, rows, False)):
        at.want(not frees(t) & set(xs))
    told = []
    for k, ((name, kinds), (xs, h, p)) in enumerate(at.rows_of(kind, rows, False)):
        things = [("thing", x, kind) for x, kind in zip(xs, kinds)]
        told.append(at.told(k, p, *things, ("fact", h, ("same", t, made(name, xs)))))
        at.want(not frees(told[-1]) & set(xs) and told[-1] == told[0])
    return told[0]


def binds(A):
    return A[0] in ("all", "some") or A[0] in ("and", "or", "if") and (binds(A[1]) or binds(A[2]))


def look_sure(at, A):
    at.right(A)
    at.want(not binds(A))
    return ("or", A, ("if", A, ("false",)))


def look_reckon(at, A, p):
    at.right(A)
    one = at.told(0, p)
    try:
        at.want(reckoned(at.rows, one) == reckoned(at.rows, A))
    except Wrong:
        raise Fault(at.place)
    return A


def look_hole(at, n):
    at.want(type(n) is int and n >= 0 and at.goals is not None and n < len(at.goals))
    at.want(at.goals[n][0] == at.context)
    return at.goals[n][1]
