"""scopes: the kinds of terms and right statements, by a small lore that stands in for a Lore (point 8)."""

import copy
import unittest

from samples import FALSE, NIL, ZERO, atom, bound, call, form, free, nested, number, odd_things, same, suc, raised
from tacticwright.errors import NoTerm
from tacticwright.scopes import kind_of, look
from test_statements import WRONG_STATEMENTS
from test_terms import RIGHT_TERMS, WRONG_TERMS

KINDS = {"nat": [("Zero", ()), ("Suc", ("nat",))], "item": None, "list": [("Nil", ()), ("Cons", ("item", "list"))],
         "quad": [("Quad", ("nat", "item", "list", "nat"))]}
FUNCTIONS = {
    "pick": ("given", "pick", ("item", "nat"), "item"), "spot": ("given", "spot", (), "item"),
    "twice": ("short", "twice", ("nat",), "nat", bound(0)), "len": ("rule", "len", ("list",), "nat", (ZERO, ZERO)),
    "four": ("given", "four", ("nat", "nat", "item", "list"), "list"), "nat": ("given", "nat", (), "nat"),
}
WORDS = {"even": ("atom", "even", ("nat",)), "rain": ("atom", "rain", ()), "near": ("atom", "near", ("item", "list")),
         "wide": ("atom", "wide", ("nat", "nat", "item", "list"))}


class SmallLore:
    """Tells what a Lore tells, out of the three dicts above."""

    def rows(self):
        return []

    def forms(self, K):
        return KINDS.get(K)

    def has_kind(self, K):
        return K in KINDS

    def form(self, C):
        for kind, forms in KINDS.items():
            for name, kinds in forms or []:
                if name == C:
                    return (kind, kinds)
        return None

    def function(self, f):
        return FUNCTIONS.get(f)

    def word(self, P):
        return WORDS.get(P)

    def fact(self, h):
        return None


LORE = SmallLore()
THINGS = {"n": "nat", "i": "item", "l": "list", "nat": "item"}
INNER = ["list", "nat", "item"]

TERMS = [
    (free("n"), "nat"), (free("i"), "item"), (free("nat"), "item"), (bound(0), "list"), (bound(1), "nat"), (bound(2), "item"),
    (ZERO, "nat"), (suc(ZERO), "nat"), (suc(free("n")), "nat"), (suc(bound(1)), "nat"), (NIL, "list"),
    (form("Cons", free("i"), NIL), "list"), (form("Cons", bound(2), bound(0)), "list"),
    (form("Quad", ZERO, free("i"), NIL, suc(ZERO)), "quad"), (call("spot"), "item"), (call("nat"), "nat"),
    (call("twice", free("n")), "nat"), (call("pick", call("spot"), call("len", NIL)), "item"),
    (call("len", form("Cons", call("pick", bound(2), bound(1)), bound(0))), "nat"),
    (call("four", ZERO, ZERO, free("i"), free("l")), "list"), (number(60), "nat"),
]

UNRIGHT_TERMS = [
    free("x"), free("item"), bound(3), bound(10 ** 9), form("One"), form("Zero", ZERO), form("Suc"), form("Suc", ZERO, ZERO),
    form("Suc", NIL), form("Suc", free("i")), form("Suc", bound(0)), form("Cons", free("i")), form("Cons", NIL, free("i")),
    form("Cons", ZERO, NIL), form("Cons", free("i"), NIL, NIL), form("Quad", ZERO, free("i"), NIL, NIL), form("Quad"),
    call("spot", ZERO), call("twice"), call("twice", NIL), call("twice", ZERO, ZERO), call("pick", ZERO, call("spot")),
    call("none"), call("even", ZERO), call("rain"), call("len", ZERO), call("four", ZERO, ZERO, ZERO, NIL), suc(suc(suc(free("x")))),
    call("pick", call("spot"), call("len", form("Cons", call("spot"), form("Nil", ZERO)))), nested(60, ZERO),
]

STATEMENTS = [
    FALSE, same(ZERO, free("n")), same(free("i"), call("spot")), same(bound(0), NIL), atom("rain"), atom("even", bound(1)),
    atom("near", bound(2), free("l")), atom("wide", ZERO, ZERO, free("i"), NIL), ("and", FALSE, atom("rain")),
    ("or", atom("rain"), FALSE), ("if", same(ZERO, ZERO), FALSE), ("all", "nat", same(bound(0), bound(2))),
    ("some", "item", same(bound(0), bound(3))), ("all", "quad", same(bound(0), bound(0))),
    ("all", "nat", ("some", "item", ("and", atom("even", bound(1)), ("all", "list", atom("near", bound(1), bound(0)))))),
    ("and", ("all", "nat", atom("even", bound(0))), same(bound(0), NIL)),
]

UNRIGHT_STATEMENTS = [
    same(ZERO, NIL), same(free("i"), free("n")), same(ZERO, free("x")), same(free("x"), free("x")), same(ZERO, bound(0)),
    same(form("One"), form("One")), atom("none"), atom("rain", ZERO), atom("even"), atom("even", NIL), atom("even", ZERO, ZERO),
    atom("near", free("l"), free("i")), atom("wide", ZERO, ZERO, free("i")), atom("spot"), atom("even", free("x")),
    ("all", "none", FALSE), ("some", "even", FALSE), ("all", "x", FALSE), ("and", FALSE, atom("none")), ("or", atom("none"), FALSE),
    ("if", FALSE, ("if", FALSE, same(ZERO, NIL))), ("all", "nat", atom("none")), ("all", "nat", same(bound(0), bound(1))),
    ("some", "item", atom("even", bound(0))), ("some", "nat", atom("even", bound(1))), atom("even", bound(3)),
    ("all", "nat", same(bound(4), bound(4))), ("and", ("all", "nat", atom("even", bound(0))), atom("even", bound(0))),
]


class TestKindOf(unittest.TestCase):

    def test_right_terms(self):
        for t, kind in TERMS:
            self.assertEqual(kind_of(LORE, THINGS, INNER, t), kind, repr(t))

    def test_terms_that_are_not_right(self):
        for t in UNRIGHT_TERMS:
            error = raised(NoTerm, kind_of, LORE, THINGS, INNER, t)
            self.assertIsNotNone(error, repr(t))
            self.assertIsNone(error.place)

    def test_anything(self):
        for thing in odd_things() + WRONG_TERMS:
            self.assertIsNotNone(raised(NoTerm, kind_of, LORE, THINGS, INNER, thing), repr(thing))
            self.assertIsNotNone(raised(NoTerm, kind_of, LORE, THINGS, INNER, ("form", "Suc", (thing,))), repr(thing))
            self.assertIsNotNone(raised(NoTerm, kind_of, LORE, THINGS, INNER, ("form", "Suc", thing)), repr(thing))

    def test_empty_scopes(self):
        self.assertEqual(kind_of(LORE, {}, [], suc(ZERO)), "nat")
        for t in (free("n"), bound(0), suc(free("n")), suc(bound(1))):
            self.assertIsNotNone(raised(NoTerm, kind_of, LORE, {}, [], t))

    def test_scopes_stay_as_they_were(self):
        things, inner = dict(THINGS), list(INNER)
        for t, kind in TERMS:
            kind_of(LORE, things, inner, t)
        for t in UNRIGHT_TERMS:
            raised(NoTerm, kind_of, LORE, things, inner, t)
        self.assertEqual((things, inner), (THINGS, INNER))

    def test_far_deeper_than_a_call_may_go(self):
        self.assertEqual(kind_of(LORE, THINGS, INNER, number(5000)), "nat")
        self.assertIsNotNone(raised(NoTerm, kind_of, LORE, THINGS, INNER, nested(5000, ZERO)))


class TestLook(unittest.TestCase):

    def test_right_statements(self):
        for A in STATEMENTS:
            self.assertIsNone(look(LORE, THINGS, INNER, A), repr(A))

    def test_statements_that_are_not_right(self):
        for A in UNRIGHT_STATEMENTS:
            error = raised(NoTerm, look, LORE, THINGS, INNER, A)
            self.assertIsNotNone(error, repr(A))
            self.assertIsNone(error.place)

    def test_each_within_others(self):
        for A in STATEMENTS:
            for B in STATEMENTS:
                self.assertIsNone(look(LORE, THINGS, INNER, ("if", A, ("and", B, A))))
            for B in UNRIGHT_STATEMENTS:
                for C in (("if", A, B), ("and", B, A), ("or", ("and", A, B), A)):
                    self.assertIsNotNone(raised(NoTerm, look, LORE, THINGS, INNER, C))

    def test_the_terms_in_it_are_looked_at(self):
        for t, kind in TERMS:
            self.assertIsNone(look(LORE, THINGS, INNER, same(t, t)))
            for other in KINDS:
                A = ("all", other, same(bound(0), free("new")))
                look(LORE, {"new": other}, [], A)
                told = raised(NoTerm, look, LORE, dict(THINGS, new=other), INNER, same(t, free("new")))
                self.assertEqual(told is None, other == kind)
        for t in UNRIGHT_TERMS:
            self.assertIsNotNone(raised(NoTerm, look, LORE, THINGS, INNER, same(t, t)), repr(t))
            self.assertIsNotNone(raised(NoTerm, look, LORE, THINGS, INNER, atom("even", t)), repr(t))

    def test_all_and_some_put_their_kind_ahead(self):
        for word in ("all", "some"):
            for kind in KINDS:
                A = (word, kind, same(bound(0), free("new")))
                for other in KINDS:
                    told = raised(NoTerm, look, LORE, {"new": other}, [], A)
                    self.assertEqual(told is None, other == kind)
        A = ("all", "nat", ("some", "item", ("all", "list", ("and", atom("even", bound(2)), atom("near", bound(1), bound(0))))))
        self.assertIsNone(look(LORE, {}, [], A))
        self.assertIsNotNone(raised(NoTerm, look, LORE, {}, [], A[2]))
        self.assertIsNone(look(LORE, {}, ["nat"], A[2]))
        self.assertIsNone(look(LORE, {}, ["item", "nat"], A[2][2]))
        self.assertIsNotNone(raised(NoTerm, look, LORE, {}, ["nat", "item"], A[2][2]))

    def test_anything(self):
        for thing in odd_things() + WRONG_STATEMENTS + RIGHT_TERMS:
            if thing != FALSE:
                self.assertIsNotNone(raised(NoTerm, look, LORE, THINGS, INNER, thing), repr(thing))
                self.assertIsNotNone(raised(NoTerm, look, LORE, THINGS, INNER, ("all", "nat", thing)), repr(thing))
                self.assertIsNotNone(raised(NoTerm, look, LORE, THINGS, INNER, ("and", FALSE, thing)), repr(thing))

    def test_scopes_stay_as_they_were(self):
        things, inner = dict(THINGS), list(INNER)
        for A in STATEMENTS:
            before = copy.deepcopy(A)
            look(LORE, things, inner, A)
            self.assertEqual(A, before)
        for A in UNRIGHT_STATEMENTS:
            raised(NoTerm, look, LORE, things, inner, A)
        self.assertEqual((things, inner), (THINGS, INNER))


if __name__ == "__main__":
    unittest.main()
