"""Right reasons made by a seeded source, over made kinds alone, with much in them that a run takes apart."""

import making
from samples import ADD, FALSE, NAT, TWICE, ZERO, bound, call, free, same, suc
from tacticwright.contexts import put_one
from tacticwright.looker import looked
from tacticwright.lore import Lore
from tacticwright.reckoning import reckoned
from tacticwright.rewriting import marked
from tacticwright.scopes import is_of_kind
from tacticwright.statements import opened
from tacticwright.terms import parts_of

LIST = ("kind", "list", (("Nil", ()), ("Cons", ("nat", "list"))))
LEN = ("rule", "len", ("list",), "nat", (ZERO, suc(call("len", bound(1)))))
MOVED = same(call("add", bound(0), ZERO), bound(0))
ADDING = ("induct", "nat", MOVED, (
    ((), (), ("reckon", same(call("add", ZERO, ZERO), ZERO), ("plain", ZERO))),
    (("m",), ("g",), ("reckon", same(call("add", suc(free("m")), ZERO), suc(free("m"))),
                      ("swap", ("fact", "g"), same(suc(call("add", free("m"), ZERO)), suc(bound(0))),
                       ("plain", suc(call("add", free("m"), ZERO)))))),
))
# For each n there is an m that is twice n: told by induction, the witness being made step by step.
DOUBLE = ("some", "nat", same(bound(0), call("twice", bound(1))))
DOUBLING = ("induct", "nat", DOUBLE, (
    ((), (), ("with", ZERO, same(bound(0), call("twice", ZERO)), ("reckon", same(ZERO, call("twice", ZERO)), ("plain", ZERO)))),
    (("m",), ("g",), ("take", ("fact", "g"), "k", "e", ("with", suc(suc(free("k"))), same(bound(0), call("twice", suc(free("m")))), (
        "swap", ("swap", ("fact", "e"), same(bound(0), free("k")), ("plain", free("k"))),
        same(suc(suc(bound(0))), call("twice", suc(free("m")))), ("give", ("at", ("fact", "shift"), free("m")), ("plain", free("m"))))))),
))
SHIFT = ("all", "nat", ("if", same(bound(0), bound(0)), same(suc(suc(call("twice", bound(0)))), call("twice", suc(bound(0))))))
SHIFTING = ("each", "n", "nat", ("into", "o", same(free("n"), free("n")), (
    "reckon", same(suc(suc(call("twice", free("n")))), call("twice", suc(free("n")))), (
        "swap", ("at", ("at", ("fact", "later"), free("n")), free("n")), same(suc(bound(0)), suc(call("add", free("n"), suc(free("n"))))),
        ("plain", suc(call("add", free("n"), suc(free("n")))))))))
LATER = ("all", "nat", ("all", "nat", same(call("add", bound(1), suc(bound(0))), suc(call("add", bound(1), bound(0))))))
LATERING = ("induct", "nat", LATER[2], (
    ((), (), ("each", "k", "nat", ("reckon", same(call("add", ZERO, suc(free("k"))), suc(call("add", ZERO, free("k")))), ("plain", suc(free("k")))))),
    (("m",), ("g",), ("each", "k", "nat", (
        "reckon", same(call("add", suc(free("m")), suc(free("k"))), suc(call("add", suc(free("m")), free("k")))), (
            "swap", ("at", ("fact", "g"), free("k")), same(suc(call("add", free("m"), suc(free("k")))), suc(bound(0))),
            ("plain", suc(call("add", free("m"), suc(free("k"))))))))),
))
ZEROED = ("all", "nat", ("or", same(bound(0), ZERO), ("some", "nat", same(bound(1), suc(bound(0))))))
ZEROING = ("each", "n", "nat", ("forms", free("n"), (
    ((), "e", ("left", ("fact", "e"), ("some", "nat", same(free("n"), suc(bound(0)))))),
    (("m",), "e", ("right", same(free("n"), ZERO), ("with", free("m"), same(free("n"), suc(bound(0))), ("fact", "e")))),
)))
ROWS = [
    NAT, LIST, ADD, TWICE, LEN,
    ("reasoned", "zeros", ("all", "nat", MOVED), ADDING),
    ("reasoned", "later", LATER, LATERING),
    ("reasoned", "shift", SHIFT, SHIFTING),
    ("reasoned", "double", ("all", "nat", DOUBLE), DOUBLING),
    ("reasoned", "zeroed", ZEROED, ZEROING),
]
LORE = Lore(ROWS)
NAMES = ["a", "b", "c", "d", "x", "y"]


def things_in(context):
    return {entry[1]: entry[2] for entry in context if entry[0] == "thing"}


def behind(context, entry):
    """The context with an entry behind, as the looker puts it there."""
    return put_one(context, entry)


class Making:
    """A source of reasons: each deed tells a reason and what it bears out, in a context."""

    def __init__(self, rng):
        self.rng = rng

    def term(self, context, kind="nat", depth=2):
        return making.term(self.rng, ROWS, things_in(context), [], kind, depth)

    def kind(self):
        return self.rng.choice(["nat", "nat", "list"])

    def statement(self, context, depth=1):
        return making.statement(self.rng, ROWS, things_in(context), [], depth)

    def name(self):
        return self.rng.choice(NAMES)

    def leaf(self, context, depth=0):
        facts = [entry for entry in context if entry[0] == "fact"]
        if facts and self.rng.random() < 0.5:
            entry = self.rng.choice(facts)
            return ("fact", entry[1]), entry[2]
        choice = self.rng.randrange(4)
        t = self.term(context, self.kind())
        if choice == 0:
            return ("plain", t), same(t, t)
        if choice == 1:
            A = same(t, reckoned(LORE, t))
            return ("reckon", A, ("plain", t)), A
        if choice == 2:
            row = self.rng.choice(ROWS[5:])
            p, A = ("fact", row[1]), row[2]
            while A[0] == "all":
                t = self.term(context, A[1])
                p, A = ("at", p, t), looked(LORE, context, ("at", p, t))
            return p, A
        A = making.statement(self.rng, [row for row in ROWS if row[0] != "atom"], things_in(context), [], 0)
        if self.rng.random() < 0.4:
            A = (self.rng.choice(["and", "or", "if"]), A, making.statement(self.rng, ROWS, things_in(context), [], 0))
        return ("sure", A), ("or", A, ("if", A, FALSE))

    def using(self, context, p, A, h):
        """A reason of A that goes by a fact h, too, in a way that a run takes out."""
        told = dict((entry[1], entry[2]) for entry in context if entry[0] == "fact").get(h)
        if told is None:
            return p
        choice = self.rng.randrange(3)
        if choice == 0:
            return ("first", ("both", p, ("fact", h)))
        if choice == 1:
            return ("give", ("into", "z", told, p), ("fact", h)) if "z" not in str(p) else p
        return p

    def inner_terms(self, A):
        """The terms that stand in a statement outside of alls and somes."""
        found, pending = [], [A]
        while pending:
            part = pending.pop()
            if part[0] in ("all", "some"):
                continue
            if part[0] in ("free", "form", "call"):
                found.append(part)
            pending += list(parts_of(part))
        return found

    def kind_of(self, context, t):
        return looked(LORE, context, ("plain", t)) and [kind for kind in ("nat", "list") if self.is_of(context, t, kind)][0]

    def is_of(self, context, t, kind):
        return is_of_kind(LORE, things_in(context), [], t, kind)

    def like(self, context, t):
        """A term that reckons to what t reckons to."""
        if self.kind_of(context, t) == "nat" and self.rng.random() < 0.6:
            return call("add", ZERO, t)
        return reckoned(LORE, t)

    def reason(self, context, depth):
        if depth <= 0:
            return self.leaf(context)
        word = self.rng.choice(WORDS)
        return getattr(self, "make_" + word)(context, depth - 1)

    def make_into(self, context, depth):
        h, A = self.name(), self.statement(context)
        p, B = self.reason(behind(context, ("fact", h, A)), depth)
        return ("into", h, A, p), ("if", A, B)

    def make_give(self, context, depth):
        q, A = self.reason(context, depth)
        h = self.name()
        p, B = self.reason(behind(context, ("fact", h, A)), depth)
        made = ("into", h, A, p)
        if self.rng.random() < 0.3:
            C = ("if", reckoned(LORE, A), reckoned(LORE, B))
            return ("give", ("reckon", C, made), ("reckon", C[1], q)), C[2]
        return ("give", made, q), B

    def make_each(self, context, depth):
        x, kind = self.name(), self.kind()
        p, B = self.reason(behind(context, ("thing", x, kind)), depth)
        made = ("each", x, kind, p)
        return made, looked(LORE, context, made)

    def make_at(self, context, depth):
        p, A = self.make_each(context, depth)
        if self.rng.random() < 0.3:
            A = reckoned(LORE, A)
            p = ("reckon", A, p)
        made = ("at", p, self.term(context, A[1]))
        return made, looked(LORE, context, made)

    def make_both(self, context, depth):
        p, A = self.reason(context, depth)
        q, B = self.reason(context, depth - 1)
        return ("both", p, q), ("and", A, B)

    def make_side(self, context, depth):
        p, A = self.make_both(context, depth)
        if self.rng.random() < 0.3:
            A = reckoned(LORE, A)
            p = ("reckon", A, p)
        k = self.rng.randrange(2)
        return (("first", "second")[k], p), A[1 + k]

    def make_or(self, context, depth):
        p, A = self.reason(context, depth)
        B = self.statement(context)
        if self.rng.random() < 0.5:
            return ("left", p, B), ("or", A, B)
        return ("right", B, p), ("or", B, A)

    def make_cases(self, context, depth):
        p, A = self.rng.choice([self.make_or, self.leaf])(context, depth)
        if A[0] != "or":
            p, A = self.make_or(context, depth)
        if self.rng.random() < 0.3:
            A = reckoned(LORE, A)
            p = ("reckon", A, p)
        q, C = self.reason(context, depth)
        h, g = self.fresh(context), self.fresh(context)
        left = self.using(behind(context, ("fact", h, A[1])), q, C, h)
        right = self.using(behind(context, ("fact", g, A[2])), q, C, g)
        return ("cases", p, h, left, g, right), C

    def fresh(self, context):
        return self.rng.choice([name for name in ["m", "n", "o", "v", "w", "u", "t", "s", "k", "l"] if name not in [entry[1] for entry in context]])

    def make_with(self, context, depth):
        p, A = self.reason(context, depth)
        terms = self.inner_terms(A) or [self.term(context)]
        t = self.rng.choice(terms)
        body = marked(A, t)
        return ("with", t, body, p), ("some", self.kind_of(context, t), body)

    def make_take(self, context, depth):
        p, A = self.make_with(context, depth)
        if self.rng.random() < 0.3:
            A = reckoned(LORE, A)
            p = ("reckon", A, p)
        x, h = self.fresh(context), self.fresh(context)
        if self.rng.random() < 0.5:
            return ("take", p, x, h, ("with", free(x), A[2], ("fact", h))), A
        q, C = self.reason(context, depth)
        inner = behind(behind(context, ("thing", x, A[1])), ("fact", h, opened(A[2], free(x))))
        return ("take", p, x, h, self.using(inner, q, C, h)), C

    def make_swap(self, context, depth):
        q, B = self.reason(context, depth)
        terms = self.inner_terms(B)
        if not terms:
            return q, B
        t = self.rng.choice(terms)
        u = self.like(context, t)
        p = ("reckon", same(t, u), ("plain", t))
        if self.rng.random() < 0.3:
            p, u = ("plain", t), t
        elif self.rng.random() < 0.3:
            p = ("inner", ("reckon", same(suc(t), suc(u)), ("plain", suc(u))), 0) if self.kind_of(context, t) == "nat" else p
        made = ("swap", p, marked(B, t), q)
        return made, looked(LORE, context, made)

    def make_reckon(self, context, depth):
        p, A = self.reason(context, depth)
        terms = self.inner_terms(A)
        if terms and self.rng.random() < 0.6:
            t = self.rng.choice(terms)
            B = opened(marked(A, t), self.like(context, t))
        else:
            B = reckoned(LORE, A)
        return ("reckon", B, p), B

    def make_forms(self, context, depth):
        q, C = self.reason(context, depth)
        t = self.term(context)
        g, h, x = self.fresh(context), self.fresh(context), self.rng.choice(["ma", "mb"])
        zero = self.using(behind(context, ("fact", g, same(t, ZERO))), q, C, g)
        inner = behind(behind(context, ("thing", x, "nat")), ("fact", h, same(t, suc(free(x)))))
        return ("forms", t, (((), g, zero), ((x,), h, self.using(inner, q, C, h)))), C

    def make_induct(self, context, depth):
        made = ("at", self.rng.choice([ADDING, DOUBLING]), self.term(context))
        return made, looked(LORE, context, made)


WORDS = ["into", "give", "give", "each", "at", "at", "both", "side", "side", "or", "cases", "cases", "with", "take", "take", "swap",
         "swap", "reckon", "reckon", "forms", "forms", "induct"]
