"""reasons: their words, what stands in them, the reasons within, nodes and depth (points 6, 14, 15 and 17)."""

import unittest

from samples import FALSE, NIL, ZERO, atom, bound, call, form, free, odd_things, same, suc
from tacticwright.reasons import (is_great_reason, is_reason, is_reason_node, reason_depth, reason_nodes, reasons_in, said_in,
                                  with_reasons)

A = same(free("x"), ZERO)
B = atom("p", free("x"), suc(ZERO))
BODY = ("all", "nat", same(bound(0), bound(1)))
T = suc(free("x"))
P, Q, R = ("fact", "h"), ("hole", 0), ("plain", T)

# Each word with a reason of it, the reasons straight within, and the terms and statements that stand straight in it.
SAMPLES = {
    "fact": (("fact", "h"), [], []),
    "into": (("into", "h", A, P), [P], [A]),
    "give": (("give", P, Q), [P, Q], []),
    "each": (("each", "x", "nat", P), [P], []),
    "at": (("at", P, T), [P], [T]),
    "both": (("both", P, Q), [P, Q], []),
    "first": (("first", P), [P], []),
    "second": (("second", P), [P], []),
    "left": (("left", P, B), [P], [B]),
    "right": (("right", A, P), [P], [A]),
    "cases": (("cases", P, "h", Q, "g", R), [P, Q, R], []),
    "with": (("with", T, BODY, P), [P], [T, BODY]),
    "take": (("take", P, "x", "h", Q), [P, Q], []),
    "never": (("never", P, A), [P], [A]),
    "plain": (("plain", T), [], [T]),
    "swap": (("swap", P, BODY, Q), [P, Q], [BODY]),
    "unlike": (("unlike", P), [P], []),
    "inner": (("inner", P, 0), [P], []),
    "induct": (("induct", "nat", BODY, (((), (), P), (("x",), ("h",), Q), (("x", "y"), ("h", "g"), R))), [P, Q, R], [BODY]),
    "forms": (("forms", T, (((), "h", P), (("x", "y"), "g", Q))), [P, Q], [T]),
    "sure": (("sure", A), [], [A]),
    "reckon": (("reckon", A, P), [P], [A]),
    "hole": (("hole", 3), [], []),
}


def wide(many):
    """A statement of so many nodes."""
    if many <= 2:
        return FALSE if many == 1 else ("all", "nat", FALSE)
    half = (many - 1) // 2
    return ("and", wide(half), wide(many - 1 - half))


def chain(many):
    """A fact beneath so many other reasons."""
    p = P
    for turn in range(many):
        p = ("first", p)
    return p


class TestWords(unittest.TestCase):

    def test_each_word(self):
        self.assertEqual(len(SAMPLES), 23)
        for word, (p, inner, said) in SAMPLES.items():
            self.assertEqual(p[0], word)
            self.assertIs(is_reason_node(p), True, word)
            self.assertIs(is_reason(p), True, word)

    def test_each_a_part_less_or_more_or_a_list(self):
        for word, (p, inner, said) in SAMPLES.items():
            for thing in (p[:-1], p + (P,), p + ("x",), list(p), (word.title(),) + p[1:], ("x",) + p[1:], (None,) + p[1:], (word,)):
                self.assertIs(is_reason(thing), False, repr(thing))

    def test_each_spoilt_at_each_of_its_places(self):
        for word, (p, inner, said) in SAMPLES.items():
            for k in range(1, len(p)):
                for other in (None, True, False, -1, "", "X", "all", [], {}, 1.0, ("free", "X"), [P], (P,), ("nope",), ("fact",)):
                    self.assertIs(is_reason(p[:k] + (other,) + p[k + 1:]), False, (word, k, other))

    def test_other_sorts_at_each_place(self):
        for word, (p, inner, said) in SAMPLES.items():
            for k in range(1, len(p)):
                if isinstance(p[k], str):
                    others = (0, T, A, P, ())
                elif isinstance(p[k], int):
                    others = ("x", T, A, P, ())
                elif p[k] in inner:
                    others = ("x", 0, T, A, ())
                elif p[k] == T:
                    others = ("x", 0, A, P, ())
                elif p[k] in (A, B, BODY):
                    others = ("x", 0, T, P, ())
                else:
                    others = ("x", 0, T, A, P)
                for other in others:
                    self.assertIs(is_reason(p[:k] + (other,) + p[k + 1:]), False, (word, k, other))

    def test_rows(self):
        self.assertIs(is_reason(("induct", "nat", BODY, ())), True)
        self.assertIs(is_reason(("forms", T, ())), True)
        for row in (None, (), ((), ()), ((), (), P, P), [(), (), P], ([], (), P), ((), [], P), ("x", (), P), ((), "h", P), (("X",), (), P),
                    ((), ("all",), P), ((1,), (), P), ((), (), None), ((), (), T), ((), (), [P])):
            self.assertIs(is_reason(("induct", "nat", BODY, (row,))), False, repr(row))
            self.assertIs(is_reason(("induct", "nat", BODY, (((), (), P), row))), False, repr(row))
        for row in (None, (), ((), "h"), ((), "h", P, P), [(), "h", P], ([], "h", P), ((), ("h",), P), ("x", "h", P), ((), "H", P),
                    ((), None, P), (("",), "h", P), ((), "h", A), ((), "h", None)):
            self.assertIs(is_reason(("forms", T, (row,))), False, repr(row))
        self.assertIs(is_reason(("forms", T, [((), "h", P)])), False)

    def test_anything(self):
        for thing in odd_things():
            self.assertIs(is_reason(thing), False, repr(thing))
            self.assertIs(is_reason(("first", thing)), False, repr(thing))

    def test_a_node_alone_is_seen_without_the_reasons_within(self):
        self.assertIs(is_reason_node(("give", None, [])), True)
        self.assertIs(is_reason_node(("induct", "nat", BODY, (((), (), None),))), True)
        self.assertIs(is_reason_node(("into", "h", None, P)), False)
        self.assertIs(is_reason_node(("into", "H", A, P)), False)


class TestWithin(unittest.TestCase):

    def test_reasons_within_in_their_order(self):
        for word, (p, inner, said) in SAMPLES.items():
            self.assertEqual(reasons_in(p), inner, word)
            self.assertEqual(said_in(p), said, word)

    def test_others_in_their_places(self):
        for word, (p, inner, said) in SAMPLES.items():
            self.assertEqual(with_reasons(p, inner), p, word)
            others = [("hole", 10 + k) for k in range(len(inner))]
            made = with_reasons(p, others)
            self.assertEqual(reasons_in(made), others)
            self.assertEqual(said_in(made), said)
            self.assertEqual(with_reasons(made, inner), p)
            self.assertIs(is_reason(made), True)

    def test_lists_are_the_askers_own(self):
        p = ("give", P, Q)
        reasons_in(p).clear()
        said_in(p).append(1)
        self.assertEqual(reasons_in(p), [P, Q])
        self.assertEqual(said_in(p), [])


class TestNodesAndDepth(unittest.TestCase):

    def test_nodes(self):
        many = {"fact": 1, "into": 5, "give": 3, "each": 2, "at": 4, "both": 3, "first": 2, "second": 2, "left": 6, "right": 5, "cases": 6,
                "with": 8, "take": 3, "never": 5, "plain": 3, "swap": 7, "unlike": 2, "inner": 2, "induct": 10, "forms": 5, "sure": 4,
                "reckon": 5, "hole": 1}
        for word, (p, inner, said) in SAMPLES.items():
            self.assertEqual(reason_nodes(p), many[word], word)

    def test_each_as_often_as_it_stands(self):
        p = P
        for turn in range(10):
            p = ("both", p, p)
        self.assertEqual(reason_nodes(p), 2047)
        t = form("Cons", free("x"), form("Cons", free("x"), NIL))
        self.assertEqual(reason_nodes(("both", ("plain", t), ("sure", same(t, call("f", t))))), 1 + 6 + 13)

    def test_depth(self):
        for word, (p, inner, said) in SAMPLES.items():
            self.assertEqual(reason_depth(p), 1 if inner else 0, word)
            for k in range(len(inner)):
                deeper = with_reasons(p, inner[:k] + [chain(5)] + inner[k + 1:])
                self.assertEqual(reason_depth(deeper), 6, word)
        self.assertEqual(reason_depth(chain(150)), 150)

    def test_great_ones(self):
        self.assertIs(is_great_reason(chain(150)), False)
        self.assertIs(is_great_reason(chain(151)), True)
        p = ("both", P, P)
        for turn in range(9):
            p = ("both", p, ("right", wide(1998), P))
        self.assertEqual(reason_nodes(p), 18012)
        for many, great in ((1985, False), (1986, True)):
            full = ("both", p, ("right", wide(many), P))
            self.assertEqual(reason_nodes(full), 18015 + many)
            self.assertIs(is_great_reason(full), great)

    def test_far_deeper_than_a_call_may_go(self):
        p = chain(5000)
        self.assertIs(is_reason(p), True)
        self.assertEqual((reason_nodes(p), reason_depth(p)), (5001, 5000))


if __name__ == "__main__":
    unittest.main()
