"""statements: what is one, whole ones, opened and closed bodies, frees put (point 5)."""

import random
import unittest

import slow
from samples import FALSE, ZERO, atom, bound, call, form, free, nested, odd_things, same, suc
from tacticwright.statements import closed, free_put, is_statement, is_whole, opened
from tacticwright.terms import free_in, nodes
from test_terms import RIGHT_TERMS, WRONG_TERMS, spoilt


def quantified(k, inmost, word="all"):
    """The statement inmost beneath k alls or somes."""
    A = inmost
    for turn in range(k):
        A = (word, "nat", A)
    return A


def mixed(k, inmost):
    """The statement inmost beneath k alls and somes in turn."""
    A = inmost
    for turn in range(k):
        A = ("all" if turn % 2 else "some", "nat", A)
    return A


RIGHT_STATEMENTS = [
    FALSE, same(ZERO, free("x")), same(bound(4), call("f", bound(0))), atom("p"), atom("p", ZERO), atom("if", ZERO, ZERO),
    atom("p", ZERO, ZERO, ZERO), atom("p", free("x"), bound(0), call("f"), form("C", ZERO)), ("and", FALSE, atom("p")),
    ("or", atom("p"), FALSE), ("if", same(ZERO, ZERO), FALSE), ("all", "nat", FALSE), ("some", "nat", same(bound(0), ZERO)),
    ("all", "nat", ("some", "list", ("and", atom("p", bound(1)), ("or", FALSE, ("if", atom("q", bound(0)), FALSE))))),
    quantified(60, FALSE), quantified(58, same(ZERO, bound(57)), "some"), ("all", "same", atom("atom")),
]

WRONG_STATEMENTS = [
    ("false", None), ("false", "false"), ["false"], ("False",), ("true",), (), ("same",), ("same", ZERO),
    ("same", ZERO, ZERO, ZERO), ["same", ZERO, ZERO], ("same", ZERO, FALSE), ("same", FALSE, ZERO), ("same", "x", "y"),
    ("atom", "p"), ("atom", "p", (), ()), ("atom", "P", ()), ("atom", "all", ()), ("atom", "p", []), ("atom", "p", (ZERO,) * 5),
    ("atom", "p", (FALSE,)), ("atom", "p", ZERO), ("atom", ("p",), ()), ("atom", ["p"], ()), ("atom", True, ()),
    ("and", FALSE), ("and", FALSE, FALSE, FALSE), ("and", FALSE, ZERO), ("or", ZERO, FALSE), ("if", FALSE, None),
    ["if", FALSE, FALSE], ("not", FALSE), ("iff", FALSE, FALSE), ("all", "Nat", FALSE), ("all", "nat"), ("all", FALSE),
    ("all", "nat", ZERO), ("some", "some", FALSE), ("some", ["nat"], FALSE), ("some", 1, FALSE), ("some", "nat", FALSE, FALSE),
    ("some", "nat", ["false"]), quantified(60, ZERO), quantified(60, ("same", ZERO, ("bound", True))), ("all", None, FALSE),
]

BODIES = [
    same(bound(0), bound(0)), atom("p", bound(0), call("f", bound(0), free("y"))), FALSE,
    ("and", atom("p", bound(0)), ("all", "nat", atom("q", bound(0), bound(1)))),
    ("some", "nat", ("all", "nat", ("if", atom("q", bound(2), bound(1)), same(bound(0), suc(bound(2)))))),
    mixed(7, ("or", same(bound(7), bound(0)), atom("p", bound(3), form("C", bound(7))))), mixed(3, FALSE),
    quantified(58, same(bound(58), bound(57))),
]


class TestIsStatement(unittest.TestCase):

    def test_right_statements(self):
        for A in RIGHT_STATEMENTS + BODIES:
            self.assertIs(is_statement(A), True, repr(A))

    def test_wrong_statements(self):
        for thing in WRONG_STATEMENTS:
            self.assertIs(is_statement(thing), False, repr(thing))

    def test_terms_are_none(self):
        for t in RIGHT_TERMS:
            self.assertIs(is_statement(t), False, repr(t))

    def test_the_terms_in_it_are_looked_at(self):
        for t in RIGHT_TERMS:
            for A in (same(t, ZERO), same(ZERO, t), atom("p", t), atom("p", ZERO, ZERO, ZERO, t)):
                self.assertIs(is_statement(("all", "nat", A)), True, repr(A))
        for t in WRONG_TERMS:
            for A in (same(t, ZERO), same(ZERO, t), atom("p", t), atom("p", ZERO, ZERO, ZERO, t)):
                self.assertIs(is_statement(("all", "nat", A)), False, repr(A))

    def test_anything(self):
        for thing in odd_things():
            self.assertIs(is_statement(thing), thing == FALSE, repr(thing))
            self.assertIs(is_statement(("and", thing, FALSE)), thing == FALSE, repr(thing))
            self.assertIs(is_statement(("all", "nat", thing)), thing == FALSE, repr(thing))
            self.assertIs(is_statement(("all", thing, FALSE)), slow.is_name(thing), repr(thing))

    def test_each_spoilt_at_each_of_its_places(self):
        many = 0
        for A in RIGHT_STATEMENTS[:14]:
            for thing in spoilt(A):
                self.assertIs(is_statement(thing), slow.is_statement(thing), repr(thing))
                many += not is_statement(thing)
        self.assertGreater(many, 1000)

    def test_far_deeper_than_a_call_may_go(self):
        self.assertIs(is_statement(quantified(5000, FALSE)), True)
        self.assertIs(is_statement(quantified(5000, ZERO)), False)


class TestIsWhole(unittest.TestCase):

    def test_terms(self):
        for t in RIGHT_TERMS:
            self.assertIs(is_whole(t), all(leaf[0] != "bound" for leaf, depth in slow.leaves(t)), repr(t))
        self.assertIs(is_whole(bound(0)), False)
        self.assertIs(is_whole(nested(60, free("x"))), True)
        self.assertIs(is_whole(nested(60, bound(0))), False)

    def test_statements_beneath_alls_and_somes(self):
        for many in range(6):
            for k in range(8):
                for A in (same(ZERO, bound(k)), same(bound(k), ZERO), atom("p", ZERO, suc(bound(k)))):
                    self.assertIs(is_whole(quantified(many, A)), k < many)
                    self.assertIs(is_whole(mixed(many, A)), k < many)
                    self.assertIs(is_whole(("and", mixed(many, A), FALSE)), k < many)
                    self.assertIs(is_whole(("or", FALSE, mixed(many, A))), k < many)

    def test_an_all_counts_only_within_itself(self):
        self.assertIs(is_whole(("and", ("all", "nat", atom("p", bound(0))), atom("p", bound(0)))), False)
        self.assertIs(is_whole(("if", ("all", "nat", atom("p", bound(0))), ("some", "nat", atom("p", bound(0))))), True)
        self.assertIs(is_whole(("all", "nat", ("if", ("some", "nat", atom("p", bound(1))), atom("p", bound(0))))), True)
        self.assertIs(is_whole(("all", "nat", ("if", ("some", "nat", atom("p", bound(1))), atom("p", bound(1))))), False)

    def test_those_without_terms(self):
        self.assertIs(is_whole(FALSE), True)
        self.assertIs(is_whole(atom("p")), True)
        self.assertIs(is_whole(("all", "nat", FALSE)), True)


class TestOpenedAndClosed(unittest.TestCase):

    def test_opened_beneath_none_one_and_several(self):
        t = call("f", free("x"))
        self.assertEqual(opened(same(bound(0), ZERO), t), same(t, ZERO))
        self.assertEqual(opened(("all", "nat", same(bound(0), bound(1))), t), ("all", "nat", same(bound(0), t)))
        A = ("some", "nat", ("all", "nat", atom("p", bound(0), bound(1), bound(2))))
        self.assertEqual(opened(A, t), ("some", "nat", ("all", "nat", atom("p", bound(0), bound(1), t))))
        for many in range(9):
            A = mixed(many, atom("p", *[bound(k) for k in range(max(0, many - 2), many + 1)]))
            B = mixed(many, atom("p", *[bound(k) for k in range(max(0, many - 2), many)], t))
            self.assertEqual(opened(A, t), B)

    def test_closed_beneath_none_one_and_several(self):
        self.assertEqual(closed(same(free("x"), free("y")), "x"), same(bound(0), free("y")))
        for many in range(9):
            A = mixed(many, atom("p", free("x"), suc(free("x")), free("xx")))
            self.assertEqual(closed(A, "x"), mixed(many, atom("p", bound(many), suc(bound(many)), free("xx"))))
        A = ("and", atom("p", free("x")), ("all", "x", atom("x", bound(0), free("x"))))
        self.assertEqual(closed(A, "x"), ("and", atom("p", bound(0)), ("all", "x", atom("x", bound(0), bound(1)))))
        self.assertEqual(closed(atom("p", free("y")), "x"), atom("p", free("y")))

    def test_opened_of_closed_leads_back(self):
        for body in BODIES:
            for t in (free("x"), ZERO, call("f", free("y"))):
                A = opened(body, t)
                self.assertTrue(is_whole(A))
                for x in ("x", "y", "z"):
                    self.assertEqual(opened(closed(A, x), free(x)), A)
                    self.assertNotIn(x, free_in(closed(A, x)))
                    self.assertTrue(is_whole(("all", "nat", closed(A, x))))

    def test_closed_of_opened_leads_back(self):
        for body in BODIES:
            self.assertEqual(closed(opened(body, free("new")), "new"), body)

    def test_by_plain_recursion(self):
        t = form("Pair", free("a"), ZERO)
        for body in BODIES:
            def put(leaf, depth):
                return t if leaf == bound(depth) else leaf
            self.assertEqual(opened(body, t), slow.mapped(body, put))

    def test_what_was_told_may_be_handed_in_again(self):
        A = quantified(3000, same(bound(3000), free("x")))
        B = opened(A, ZERO)
        self.assertEqual(nodes(B), 3003)
        self.assertTrue(is_whole(B))
        self.assertFalse(is_whole(closed(B, "x")))


class TestFreePut(unittest.TestCase):

    def test_in_terms(self):
        t = form("Pair", free("x"), call("f", free("y"), free("x"), bound(0)))
        made = form("Pair", ZERO, call("f", free("y"), ZERO, bound(0)))
        self.assertEqual(free_put(t, "x", ZERO), made)
        self.assertEqual(free_put(t, "z", ZERO), t)
        self.assertEqual(free_put(free("x"), "x", suc(free("x"))), suc(free("x")))
        self.assertEqual(free_put(form("Pair", free("x"), free("y")), "x", free("y")), form("Pair", free("y"), free("y")))

    def test_in_statements(self):
        u = call("f", free("x"), free("y"))
        for many in range(5):
            A = mixed(many, ("if", atom("x", free("x")), same(free("x"), free("y"))))
            B = mixed(many, ("if", atom("x", u), same(u, free("y"))))
            self.assertEqual(free_put(A, "x", u), B)
        self.assertEqual(free_put(FALSE, "x", u), FALSE)

    def test_bounds_and_kinds_stay(self):
        A = ("all", "x", atom("p", bound(0), free("x")))
        self.assertEqual(free_put(A, "x", ZERO), ("all", "x", atom("p", bound(0), ZERO)))

    def test_by_closing_and_opening(self):
        rng = random.Random(5)
        for turn in range(200):
            A = mixed(rng.randrange(4), same(rng.choice([free("x"), suc(free("y"))]), call("f", free(rng.choice("xyz")))))
            u = rng.choice([ZERO, free("x"), free("w"), call("g", free("z"))])
            self.assertEqual(free_put(A, "x", u), opened(closed(A, "x"), u))


if __name__ == "__main__":
    unittest.main()
