"""reckoning: steps, the told order, what a term comes to, and its bounds (points 9 and 3 d)."""

import random
import unittest

import making
import slow
from samples import (ADD, FALSE, LIST, NAT, NIL, ROWS, TWICE, ZERO, atom, bound, call, form, free, number, raised, same, suc)
from tacticwright.errors import TooGreat, TooLong
from tacticwright.lore import Lore
from tacticwright.reckoning import reckoned, stepped, steps, turns
from tacticwright.terms import nodes

LORE = Lore(ROWS)

EDGE_ROWS = [
    NAT, ADD, TWICE,
    ("kind", "tree", (("Leaf", ()), ("Wrap", ("tree",)), ("Node", ("tree", "tree")), ("Four", ("tree", "tree", "tree", "tree")))),
    ("kind", "bag", (("Empty", ()), ("Bag", ("nat", "bag")), ("Both", ("tree", "nat")))),
    ("rule", "idle", ("nat", "nat"), "nat", (bound(0), call("idle", bound(0), call("idle", bound(0), bound(1))))),
    ("short", "dup", ("tree",), "tree", form("Node", bound(0), bound(0))),
    ("short", "up", ("nat",), "nat", suc(suc(bound(0)))),
    ("short", "drop", ("tree",), "tree", form("Leaf")),
    ("short", "one", (), "nat", suc(ZERO)),
    ("short", "low", ("nat",), "nat", ZERO),
    ("atom", "p", ("nat", "tree")),
]
EDGE = Lore(EDGE_ROWS)


def bag_of(*terms):
    made = form("Empty")
    for t in reversed(terms):
        made = form("Bag", t, made)
    return made


def exact(many):
    """A term of kind bag that goes just so many told steps."""
    terms = []
    for k in range(9, -1, -1):
        while many >= 2 ** (k + 1) - 1:
            terms.append(call("idle", number(k), ZERO))
            many -= 2 ** (k + 1) - 1
    return bag_of(*terms)


def tree(many):
    """A tree of so many nodes, as flat as may be."""
    if many == 1:
        return form("Leaf")
    if many == 2:
        return form("Wrap", form("Leaf"))
    half = (many - 1) // 2
    return form("Node", tree(half), tree(many - 1 - half))


def deep(k, t=ZERO):
    for turn in range(k):
        t = suc(t)
    return t


class TestSteps(unittest.TestCase):

    def test_where_a_step_can_go(self):
        self.assertEqual(steps(LORE, call("twice", free("n"))), [()])
        self.assertEqual(steps(LORE, call("add", ZERO, free("n"))), [()])
        self.assertEqual(steps(LORE, call("add", suc(free("n")), free("n"))), [()])
        for t in (free("n"), bound(0), ZERO, number(5), call("spot"), call("pick", call("spot"), ZERO), call("add", free("n"), ZERO),
                  call("add", bound(0), ZERO), call("len", free("l")), call("size", call("spot")),
                  call("add", call("size", call("spot")), ZERO)):
            self.assertEqual(steps(LORE, t), [])

    def test_in_the_order_of_places(self):
        t = call("twice", call("add", call("twice", ZERO), call("add", suc(ZERO), call("add", free("n"), call("twice", bound(3))))))
        self.assertEqual(steps(LORE, t), [(), (0, 0), (0, 1), (0, 1, 1, 1)])
        t = form("Cons", call("first", NIL, call("spot")), form("Cons", call("pick", call("spot"), call("len", NIL)), NIL))
        self.assertEqual(steps(LORE, t), [(0,), (1, 0, 1)])

    def test_stepped_at_each(self):
        t = call("twice", call("add", suc(ZERO), call("twice", bound(3))))
        inner = call("add", suc(ZERO), call("twice", bound(3)))
        self.assertEqual(stepped(LORE, t, ()), call("add", inner, inner))
        self.assertEqual(stepped(LORE, t, (0,)), call("twice", suc(call("add", ZERO, call("twice", bound(3))))))
        self.assertEqual(stepped(LORE, t, (0, 1)), call("twice", call("add", suc(ZERO), call("add", bound(3), bound(3)))))
        self.assertEqual(stepped(EDGE, call("one"), ()), suc(ZERO))

    def test_parts_come_ahead_of_the_other_args(self):
        rows = [NAT, ("open", "item"), LIST, ("given", "f", ("item", "list", "nat", "item"), "nat"),
                ("rule", "g", ("list", "nat", "item"), "nat", (bound(0), call("f", bound(0), bound(1), bound(2), bound(3))))]
        lore = Lore(rows)
        t = call("g", form("Cons", free("i"), free("l")), free("n"), free("j"))
        self.assertEqual(stepped(lore, t, ()), call("f", free("i"), free("l"), free("n"), free("j")))
        self.assertEqual(stepped(lore, call("g", NIL, free("n"), free("j")), ()), free("n"))

    def test_stepped_refuses_nothing(self):
        t = call("dup", tree(1900))
        self.assertEqual(nodes(stepped(EDGE, t, ())), 3801)
        self.assertEqual(nodes(stepped(EDGE, call("dup", stepped(EDGE, t, ())), ())), 7603)
        self.assertEqual(stepped(EDGE, deep(100, call("up", ZERO)), (0,) * 100), number(102))

    def test_lists_are_the_askers_own(self):
        t = call("twice", call("twice", ZERO))
        steps(LORE, t).append(1)
        turns(LORE, t).clear()
        self.assertEqual(steps(LORE, t), [(), (0,)])
        self.assertEqual(turns(LORE, t)[0], t)

    def test_over_many(self):
        rng = random.Random(9)
        for turn in range(300):
            kind = rng.choice(["nat", "item", "list", "pair"])
            t = making.term(rng, ROWS, {"n": "nat", "i": "item"}, ["list", "nat"], kind, 5)
            wanted = [place for place in slow.places(t) if slow.unfolded(ROWS, slow.at(t, place)) is not None]
            self.assertEqual(steps(LORE, t), wanted)
            for place in wanted:
                self.assertEqual(stepped(LORE, t, place), slow.put_at(t, place, slow.unfolded(ROWS, slow.at(t, place))))


class TestTurns(unittest.TestCase):

    def test_the_told_order(self):
        t = call("add", call("twice", suc(ZERO)), call("twice", free("n")))
        told = [
            t,
            call("add", call("add", suc(ZERO), suc(ZERO)), call("twice", free("n"))),
            call("add", suc(call("add", ZERO, suc(ZERO))), call("twice", free("n"))),
            call("add", suc(suc(ZERO)), call("twice", free("n"))),
            call("add", suc(suc(ZERO)), call("add", free("n"), free("n"))),
            suc(call("add", suc(ZERO), call("add", free("n"), free("n")))),
            suc(suc(call("add", ZERO, call("add", free("n"), free("n"))))),
            suc(suc(call("add", free("n"), free("n")))),
        ]
        self.assertEqual(turns(LORE, t), told)

    def test_the_inner_ones_go_first_though_the_outer_could(self):
        t = call("twice", call("twice", ZERO))
        self.assertEqual(turns(LORE, t)[1], call("twice", call("add", ZERO, ZERO)))
        t = call("first", form("Cons", call("spot"), NIL), call("first", NIL, call("spot")))
        self.assertEqual(turns(LORE, t)[1], call("first", form("Cons", call("spot"), NIL), call("spot")))

    def test_steps_within_steps_within_steps(self):
        inner = call("twice", call("twice", call("twice", suc(ZERO))))
        self.assertEqual(turns(LORE, inner)[1], call("twice", call("twice", call("add", suc(ZERO), suc(ZERO)))))
        for t in (inner, call("twice", inner), call("add", inner, inner), call("add", call("twice", free("n")), inner),
                  call("first", form("Cons", call("first", NIL, call("spot")), NIL), call("first", NIL, call("first", NIL, call("spot")))),
                  form("Pair", call("first", NIL, call("first", NIL, call("first", NIL, free("i")))), inner)):
            self.assertEqual(turns(LORE, t), slow.turns(ROWS, t))

    def test_none_to_go(self):
        for t in (free("n"), ZERO, bound(0), call("spot"), call("add", free("n"), ZERO)):
            self.assertEqual(turns(LORE, t), [t])
            self.assertEqual(reckoned(LORE, t), t)

    def test_any_order_of_steps_comes_to_the_same(self):
        rng = random.Random(4)
        for turn in range(150):
            kind = rng.choice(["nat", "item", "list"])
            t = making.term(rng, ROWS, {"n": "nat", "i": "item", "l": "list"}, ["list", "nat"], kind, 4)
            told = turns(LORE, t)
            self.assertEqual(told, slow.turns(ROWS, t))
            self.assertEqual(reckoned(LORE, t), told[-1])
            self.assertEqual(steps(LORE, told[-1]), [])
            for go in range(3):
                made = t
                while steps(LORE, made) and slow.nodes(made) < 3000:
                    made = stepped(LORE, made, rng.choice(steps(LORE, made)))
                self.assertEqual(made, told[-1])

    def test_bounds_stay(self):
        t = call("add", suc(bound(2)), call("twice", bound(0)))
        self.assertEqual(reckoned(LORE, t), suc(call("add", bound(2), call("add", bound(0), bound(0)))))


class TestEdges(unittest.TestCase):

    def test_steps(self):
        self.assertEqual(len(turns(EDGE, exact(100))), 101)
        self.assertEqual(len(slow.turns(EDGE_ROWS, exact(100))), 101)
        t = exact(2000)
        self.assertLessEqual(nodes(t), 2000)
        self.assertEqual(len(turns(EDGE, t)), 2001)
        self.assertEqual(steps(EDGE, reckoned(EDGE, t)), [])
        for many in (2001, 2100):
            self.assertIsNotNone(raised(TooLong, turns, EDGE, exact(many)))
            self.assertIsNotNone(raised(TooLong, reckoned, EDGE, exact(many)))

    def test_nodes(self):
        self.assertEqual(nodes(tree(999)), 999)
        right = form("Wrap", call("dup", tree(999)))
        self.assertEqual(nodes(reckoned(EDGE, right)), 2000)
        self.assertEqual([nodes(t) for t in turns(EDGE, right)], [1001, 2000])
        for t in (form("Wrap", right), call("dup", tree(1000)), call("dup", tree(1500))):
            self.assertIsNotNone(raised(TooGreat, reckoned, EDGE, t))
            self.assertIsNotNone(raised(TooGreat, turns, EDGE, t))

    def test_a_great_term_on_the_way(self):
        self.assertIsNotNone(raised(TooGreat, reckoned, EDGE, call("drop", call("dup", tree(1000)))))
        self.assertEqual(reckoned(EDGE, call("drop", call("dup", tree(999)))), form("Leaf"))
        self.assertEqual(reckoned(EDGE, call("drop", tree(1999))), form("Leaf"))

    def test_depth(self):
        self.assertEqual(reckoned(EDGE, deep(58, call("up", ZERO))), number(60))
        self.assertIsNotNone(raised(TooGreat, reckoned, EDGE, deep(59, call("up", ZERO))))
        self.assertIsNotNone(raised(TooGreat, turns, EDGE, deep(59, call("up", ZERO))))
        self.assertEqual(reckoned(EDGE, deep(58, call("add", suc(ZERO), ZERO))), number(59))
        self.assertEqual(reckoned(EDGE, call("add", number(29), number(30))), number(59))
        # On the way of the second one a call of add stands between thirty forms and thirty others.
        self.assertIsNotNone(raised(TooGreat, reckoned, EDGE, call("add", number(30), number(30))))
        self.assertEqual(reckoned(EDGE, call("low", deep(56, call("up", ZERO)))), ZERO)
        self.assertIsNotNone(raised(TooGreat, reckoned, EDGE, call("low", deep(58, call("up", ZERO)))))

    def test_the_whole_term_counts(self):
        wide = form("Both", tree(1000), call("up", deep(40)))
        self.assertEqual(slow.height(reckoned(EDGE, wide)), 43)
        beside = form("Both", form("Node", tree(1950), tree(5)), call("up", deep(40)))
        self.assertEqual(nodes(beside), 1 + 1956 + 42)
        self.assertEqual(nodes(reckoned(EDGE, beside)), 2000)
        beside = form("Both", form("Node", tree(1950), tree(6)), call("up", deep(40)))
        self.assertIsNotNone(raised(TooGreat, reckoned, EDGE, beside))
        self.assertIsNotNone(raised(TooGreat, reckoned, EDGE, form("Bag", number(60), form("Bag", call("one"), form("Empty")))))
        self.assertIsNotNone(raised(TooGreat, reckoned, EDGE, form("Bag", call("one"), form("Bag", number(59), form("Empty")))))
        right = form("Bag", call("one"), form("Bag", number(58), form("Empty")))
        self.assertEqual(reckoned(EDGE, right), form("Bag", suc(ZERO), form("Bag", number(58), form("Empty"))))

    def test_what_goes_no_step_is_not_refused(self):
        for t in (number(61), number(300), tree(2001), tree(5000), form("Bag", number(60), form("Empty"))):
            self.assertEqual(turns(EDGE, t), [t])
            self.assertEqual(reckoned(EDGE, t), t)
        self.assertEqual(reckoned(EDGE, call("low", number(300))), ZERO)
        self.assertEqual(reckoned(EDGE, call("drop", tree(3000))), form("Leaf"))

    def test_the_step_too_many_is_told_ahead_of_a_great_term(self):
        for many, kind in ((1999, TooGreat), (2000, TooLong)):
            t = exact(many)
            place = ()
            while slow.at(t, place)[1] == "Bag":
                place += (1,)
            t = slow.put_at(t, place, form("Both", call("dup", tree(1000)), ZERO))
            self.assertIsNotNone(raised(kind, reckoned, EDGE, t))


class TestStatements(unittest.TestCase):

    def test_term_by_term(self):
        t, u = call("twice", suc(ZERO)), suc(suc(ZERO))
        self.assertEqual(reckoned(LORE, FALSE), FALSE)
        self.assertEqual(reckoned(LORE, same(t, free("n"))), same(u, free("n")))
        self.assertEqual(reckoned(LORE, same(free("n"), t)), same(free("n"), u))
        self.assertEqual(reckoned(LORE, atom("even", t)), atom("even", u))
        self.assertEqual(reckoned(LORE, atom("rain")), atom("rain"))
        self.assertEqual(reckoned(LORE, atom("near", call("first", NIL, free("i")), free("j"))), atom("near", free("i"), free("j")))
        for word in ("and", "or", "if"):
            self.assertEqual(reckoned(LORE, (word, atom("even", t), same(t, t))), (word, atom("even", u), same(u, u)))

    def test_bounds_stay(self):
        for word in ("all", "some"):
            A = (word, "nat", ("all", "nat", same(call("twice", bound(0)), call("add", suc(bound(1)), bound(0)))))
            B = (word, "nat", ("all", "nat", same(call("add", bound(0), bound(0)), suc(call("add", bound(1), bound(0))))))
            self.assertEqual(reckoned(LORE, A), B)

    def test_each_term_has_its_own_count(self):
        t = exact(2000)
        u = reckoned(EDGE, t)
        self.assertEqual(reckoned(EDGE, same(t, t)), same(u, u))
        right = form("Wrap", call("dup", tree(999)))
        made = reckoned(EDGE, ("and", same(right, right), ("all", "nat", atom("p", deep(58, call("up", ZERO)), right))))
        self.assertEqual(nodes(made), 1 + 4001 + 1 + 1 + 61 + 2000)

    def test_the_first_refusal_from_the_left(self):
        long, great, fine = exact(2001), call("dup", tree(1000)), call("one")
        deeper = deep(59, call("up", ZERO))
        endless = call("idle", number(11), ZERO)
        self.assertIsNotNone(raised(TooLong, reckoned, EDGE, ("and", same(long, long), same(great, great))))
        self.assertIsNotNone(raised(TooGreat, reckoned, EDGE, ("and", same(great, great), same(long, long))))
        self.assertIsNotNone(raised(TooGreat, reckoned, EDGE, ("and", same(fine, fine), ("or", same(great, great), same(long, long)))))
        self.assertIsNotNone(raised(TooGreat, reckoned, EDGE, same(deeper, endless)))
        self.assertIsNotNone(raised(TooLong, reckoned, EDGE, same(endless, deeper)))
        self.assertIsNotNone(raised(TooLong, reckoned, EDGE, atom("p", endless, great)))
        self.assertIsNotNone(raised(TooGreat, reckoned, EDGE, ("all", "nat", ("if", atom("p", fine, great), atom("p", endless, great)))))

    def test_what_is_handed_in_stays(self):
        A = ("all", "nat", same(call("twice", bound(0)), bound(0)))
        before = repr(A)
        reckoned(LORE, A)
        self.assertEqual(repr(A), before)


if __name__ == "__main__":
    unittest.main()
