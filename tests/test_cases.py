"""cases: the tactics cases, induct and sure (points 16 and 20)."""

import unittest

from looksamples import BOOK_ROWS, CONTEXT, EVENS, I, L, NEAR, RAIN, X, Y, even, no
from meeting import MeetCase
from samples import FALSE, NIL, ZERO, bound, call, form, free, number, odd_things, same, suc
from tacticwright.lore import Lore
from test_plain import OLD, behind, fact, thing

M, N, O, Q = free("m"), free("s"), free("o"), free("q")
SHAPES = [
    ("kind", "unit", (("Unit", ()),)),
    ("kind", "trio", (("Red", ()), ("Mix", ("trio", "nat", "trio")), ("Blue", ("nat",)))),
    ("kind", "quad", (("Tip", ("item",)), ("Two", ("nat", "quad")), ("Four", ("quad", "item", "quad", "quad")), ("End", ()))),
]
LORE = Lore(BOOK_ROWS + SHAPES)


class TestCases(MeetCase):

    def test_numbers(self):
        rows = (((), "h"), (("m",), "g"))
        self.meets(RAIN, ("cases", X, rows), (behind(fact("h", same(X, ZERO))), RAIN),
                   (behind(thing("m", "nat"), fact("g", same(X, suc(M)))), RAIN))
        t = call("add", X, suc(Y))
        self.meets(even(X), ("cases", t, rows), (behind(fact("h", same(t, ZERO))), even(X)),
                   (behind(thing("m", "nat"), fact("g", same(t, suc(M)))), even(X)))
        self.meets(RAIN, ("cases", ZERO, rows), ((fact("h", same(ZERO, ZERO)),), RAIN),
                   ((thing("m", "nat"), fact("g", same(ZERO, suc(M)))), RAIN), context=())

    def test_lists_and_pairs(self):
        self.meets(NEAR, ("cases", L, (((), "h"), (("m", "o"), "h"))), (behind(fact("h", same(L, NIL))), NEAR),
                   (behind(thing("m", "item"), thing("o", "list"), fact("h", same(L, form("Cons", M, O)))), NEAR))
        t = form("Pair", I, X)
        self.meets(NEAR, ("cases", t, ((("m", "o"), "h"),)),
                   (behind(thing("m", "item"), thing("o", "nat"), fact("h", same(t, form("Pair", M, O)))), NEAR))

    def test_kinds_of_one_and_of_four_forms(self):
        context = (thing("t", "unit"), thing("v", "quad"))
        T, V = free("t"), free("v")
        self.meets(RAIN, ("cases", T, (((), "h"),)), (context + (fact("h", same(T, form("Unit"))),), RAIN), context=context, lore=LORE)
        rows = ((("m",), "h"), (("m", "o"), "h"), (("q", "m", "o", "s"), "g"), ((), "m"))
        self.meets(RAIN, ("cases", V, rows),
                   (context + (thing("m", "item"), fact("h", same(V, form("Tip", M)))), RAIN),
                   (context + (thing("m", "nat"), thing("o", "quad"), fact("h", same(V, form("Two", M, O)))), RAIN),
                   (context + (thing("q", "quad"), thing("m", "item"), thing("o", "quad"), thing("s", "quad"),
                               fact("g", same(V, form("Four", Q, M, O, N)))), RAIN),
                   (context + (fact("m", same(V, form("End"))),), RAIN), context=context, lore=LORE)

    def test_a_kind_of_three_forms(self):
        context = (thing("t", "trio"),)
        T = free("t")
        self.meets(RAIN, ("cases", T, (((), "h"), (("m", "o", "q"), "h"), (("m",), "h"))),
                   (context + (fact("h", same(T, form("Red"))),), RAIN),
                   (context + (thing("m", "trio"), thing("o", "nat"), thing("q", "trio"), fact("h", same(T, form("Mix", M, O, Q)))), RAIN),
                   (context + (thing("m", "nat"), fact("h", same(T, form("Blue", M)))), RAIN), context=context, lore=LORE)
        self.meets(same(T, T), ("induct", "t", (((), ()), (("m", "o", "q"), ("h", "g")), (("m",), ()))), same(form("Red"), form("Red")),
                   (context + (thing("m", "trio"), thing("o", "nat"), thing("q", "trio"), fact("h", same(M, M)), fact("g", same(Q, Q))),
                    same(form("Mix", M, O, Q), form("Mix", M, O, Q))),
                   (context + (thing("m", "nat"),), same(form("Blue", M), form("Blue", M))), context=context, lore=LORE)

    def test_fails(self):
        zero, step = ((), "h"), (("m",), "g")
        for t in (I, M, bound(0), call("none"), RAIN, "x", None, suc(I)):
            self.fails(RAIN, ("cases", t, (zero, step)), ("cases", t, ()))
        for rows in ((), (zero,), (zero, step, step), (step, zero), [zero, step], (zero, ((), "g")), (zero, (("m", "o"), "g")),
                     (zero, (["m"], "g")), (zero, ("m", "g")), (zero, (("m",), ("g",))), (zero, (("m",),)), (zero, (("m",), "g", "g")),
                     (zero, [("m",), "g"]), (zero, None), None, "rows"):
            self.fails(RAIN, ("cases", X, rows))

    def test_fails_where_names_are_not_new(self):
        for name in OLD:
            self.fails(RAIN, ("cases", X, (((), name), (("m",), "g"))), ("cases", X, (((), "h"), ((name,), "g"))),
                       ("cases", X, (((), "h"), (("m",), name))))
        self.fails(RAIN, ("cases", X, (((), "h"), (("m",), "m"))))
        self.fails(RAIN, ("cases", L, (((), "h"), (("m", "m"), "h"))))

    def test_each_rows_names_by_themselves(self):
        self.asked((CONTEXT, RAIN), ("cases", X, (((), "h"), (("m",), "h"))))
        self.asked((CONTEXT, RAIN), ("cases", X, (((), "m"), (("m",), "h"))))


class TestInduct(MeetCase):

    def test_numbers(self):
        G = even(call("add", X, Y))
        self.meets(G, ("induct", "x", (((), ()), (("m",), ("h",)))), even(call("add", ZERO, Y)),
                   (behind(thing("m", "nat"), fact("h", even(call("add", M, Y)))), even(call("add", suc(M), Y))))

    def test_beneath_alls(self):
        G = ("all", "nat", ("if", even(bound(0)), ("some", "nat", same(bound(0), call("add", bound(1), X)))))

        def put(t):
            return ("all", "nat", ("if", even(bound(0)), ("some", "nat", same(bound(0), call("add", bound(1), t)))))
        self.assertEqual(put(X), G)
        self.meets(G, ("induct", "x", (((), ()), (("m",), ("h",)))), put(ZERO),
                   (behind(thing("m", "nat"), fact("h", put(M))), put(suc(M))))

    def test_where_it_does_not_stand_in_the_goal(self):
        self.meets(RAIN, ("induct", "x", (((), ()), (("m",), ("h",)))), RAIN, (behind(thing("m", "nat"), fact("h", RAIN)), RAIN))

    def test_lists_and_pairs(self):
        G = same(call("len", L), X)
        self.meets(G, ("induct", "l", (((), ()), (("m", "o"), ("h",)))), same(call("len", NIL), X),
                   (behind(thing("m", "item"), thing("o", "list"), fact("h", same(call("len", O), X))), same(call("len", form("Cons", M, O)), X)))
        context = (thing("t", "pair"),)
        T = free("t")
        self.meets(same(T, T), ("induct", "t", ((("m", "o"), ()),)),
                   (context + (thing("m", "item"), thing("o", "nat")), same(form("Pair", M, O), form("Pair", M, O))), context=context)

    def test_kinds_of_one_and_of_four_forms(self):
        context = (fact("a", RAIN), thing("t", "unit"), thing("v", "quad"), fact("b", same(free("v"), free("v"))))
        T, V = free("t"), free("v")
        self.meets(same(T, T), ("induct", "t", (((), ()),)), same(form("Unit"), form("Unit")), context=context, lore=LORE)
        rows = ((("m",), ()), (("m", "o"), ("h",)), (("q", "m", "o", "s"), ("h", "g", "k")), ((), ()))

        def put(t):
            return same(t, form("Two", ZERO, t))
        four = (thing("q", "quad"), thing("m", "item"), thing("o", "quad"), thing("s", "quad"), fact("h", put(Q)), fact("g", put(O)),
                fact("k", put(N)))
        self.meets(put(V), ("induct", "v", rows), (context + (thing("m", "item"),), put(form("Tip", M))),
                   (context + (thing("m", "nat"), thing("o", "quad"), fact("h", put(O))), put(form("Two", M, O))),
                   (context + four, put(form("Four", Q, M, O, N))), put(form("End")), context=context, lore=LORE)

    def test_fails(self):
        zero, step = ((), ()), (("m",), ("h",))
        for x in ("i", "a", "none", "rains", "X", None, X, ("x",)):
            self.fails(RAIN, ("induct", x, (zero, step)), ("induct", x, ()))
        for rows in ((), (zero,), (zero, step, step), (step, zero), [zero, step], (zero, ((), ("h",))), (zero, (("m", "o"), ("h",))),
                     (zero, (("m",), ())), (zero, (("m",), ("h", "g"))), (((), ("h",)), step), ((("m",), ()), step), (zero, (("m",), "h")),
                     (zero, ("m", ("h",))), (zero, (["m"], ("h",))), (zero, (("m",), ["h"])), (zero, (("m",),)), (zero, (("m",), ("h",), ())),
                     (zero, [("m",), ("h",)]), (zero, None), None, "rows"):
            self.fails(RAIN, ("induct", "x", rows))
        self.fails(RAIN, ("induct", "x", (zero, step)), context=())

    def test_fails_where_names_are_not_new(self):
        for name in OLD:
            self.fails(RAIN, ("induct", "x", (((), ()), ((name,), ("h",)))), ("induct", "x", (((), ()), (("m",), (name,)))))
        self.fails(RAIN, ("induct", "x", (((), ()), (("m",), ("m",)))))
        self.fails(RAIN, ("induct", "l", (((), ()), (("m", "m"), ("h",)))))
        context = (thing("v", "quad"),)
        rows = ((("m",), ()), (("m", "o"), ("h",)), (("q", "m", "o", "s"), ("h", "h", "k")), ((), ()))
        self.fails(RAIN, ("induct", "v", rows), context=context, lore=LORE)


class TestSure(MeetCase):

    def test_sure(self):
        for A in (even(X), RAIN, FALSE, ("if", RAIN, ("and", even(Y), same(X, Y)))):
            self.meets(NEAR, ("sure", A, "h", "g"), (behind(fact("h", A)), NEAR), (behind(fact("g", no(A))), NEAR))
        self.meets(EVENS, ("sure", RAIN, "h", "g"), ((fact("h", RAIN),), EVENS), ((fact("g", no(RAIN)),), EVENS), context=())

    def test_fails(self):
        for A in (EVENS, ("some", "nat", RAIN), ("or", RAIN, no(EVENS)), even(M), even(I), even(bound(0)), X, None, [RAIN]):
            self.fails(NEAR, ("sure", A, "h", "g"))
        for name in OLD:
            self.fails(NEAR, ("sure", RAIN, name, "g"), ("sure", RAIN, "h", name))
        self.fails(NEAR, ("sure", RAIN, "h", "h"), ("sure", RAIN, "h"), ("sure", RAIN, "h", "g", "m"), ["sure", RAIN, "h", "g"])


class TestShapes(MeetCase):

    def test_of_anything_at_each_place(self):
        for tactic in (("cases", X, (((), "h"), (("m",), "g"))), ("induct", "x", (((), ()), (("m",), ("h",)))), ("sure", RAIN, "h", "g")):
            self.asked((CONTEXT, NEAR), tactic)
            self.fails(NEAR, tactic[:-1], tactic + ("x",), list(tactic), tactic[:1], tactic[1:])
            for k in range(len(tactic)):
                for one in odd_things():
                    if (tactic[0], one) not in (("induct", "x"), ("sure", FALSE), ("cases", ("free", "x"))):
                        self.fails(NEAR, tactic[:k] + (one,) + tactic[k + 1:])


if __name__ == "__main__":
    unittest.main()
