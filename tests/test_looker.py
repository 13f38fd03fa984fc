"""looker: what reasons bear out, and the places of what is none (points 6, 9, 14, 15 and 17)."""

import random
import unittest

import slowlook
from looksamples import ADDED, ADDING, BOOK_ROWS, CONTEXT, EVENS, GOALS, I, L, NEAR, RAIN, RIGHT, X, Y, even, no
from samples import FALSE, NIL, ZERO, atom, bound, call, form, free, nested, number, odd_things, raised, same, suc
from tacticwright.errors import NoReason
from tacticwright.looker import looked
from tacticwright.lore import Lore
from tacticwright.reasons import is_great_reason, reasons_in, sorted_parts, with_reasons

LORE = Lore(BOOK_ROWS)
M = free("m")
TRUTH = ("plain", ZERO)
NONE = object()


def place_of(reason, context=CONTEXT, goals=GOALS, lore=LORE):
    """The place that a refusal of a reason tells, NONE where it isn't refused."""
    error = raised(NoReason, looked, lore, context, reason, goals)
    return NONE if error is None else error.place


class LookCase(unittest.TestCase):

    def bears(self, reason, statement, context=CONTEXT, goals=GOALS):
        self.assertEqual(looked(LORE, context, reason, goals), statement)

    def fault(self, place, reason, context=CONTEXT, goals=GOALS):
        """The reason is refused at this place, and at the place within where it stands deep in another."""
        self.assertEqual(place_of(reason, context, goals), place, reason)
        if context == CONTEXT:
            deep = ("both", ("fact", "b"), ("left", ("second", ("both", TRUTH, reason)), RAIN))
            self.assertEqual(place_of(deep, context, goals), (1, 0, 0, 1) + place, reason)


class TestBorneOut(LookCase):

    def test_each_word_in_a_context(self):
        self.assertEqual(len(RIGHT), 23)
        for word, (reason, statement) in RIGHT.items():
            self.assertEqual(reason[0], word)
            self.assertEqual(looked(LORE, CONTEXT, reason, GOALS), statement, word)
            self.assertEqual(slowlook.looked(BOOK_ROWS, CONTEXT, reason, GOALS), statement, word)

    def test_no_goals_are_needed_where_no_hole_is(self):
        for word, (reason, statement) in RIGHT.items():
            if word != "hole":
                self.assertEqual(looked(LORE, CONTEXT, reason), statement, word)
                self.assertEqual(looked(LORE, CONTEXT, reason, []), statement, word)

    def test_each_word_without_a_context(self):
        rows = [
            (("fact", "evens"), EVENS),
            (("into", "h", RAIN, ("fact", "h")), ("if", RAIN, RAIN)),
            (("give", ("fact", "hasty"), ("fact", "rains")), FALSE),
            (("each", "x", "nat", ("each", "y", "item", ("plain", X))), ("all", "nat", ("all", "item", same(bound(1), bound(1))))),
            (("at", ("fact", "evens"), ZERO), even(ZERO)),
            (("both", ("fact", "rains"), ("fact", "evens")), ("and", RAIN, EVENS)),
            (("first", ("fact", "both")), RAIN),
            (("second", ("fact", "both")), EVENS),
            (("left", ("fact", "rains"), FALSE), ("or", RAIN, FALSE)),
            (("right", FALSE, ("fact", "rains")), ("or", FALSE, RAIN)),
            (("cases", ("fact", "either"), "h", ("fact", "h"), "h", ("never", ("fact", "h"), RAIN)), RAIN),
            (("with", ZERO, even(bound(0)), ("at", ("fact", "evens"), ZERO)), ("some", "nat", even(bound(0)))),
            (("take", ("fact", "there"), "x", "h", ("fact", "rains")), RAIN),
            (("never", ("give", ("fact", "hasty"), ("fact", "rains")), EVENS), EVENS),
            (("plain", number(3)), same(number(3), number(3))),
            (("swap", ("plain", ZERO), same(bound(0), bound(0)), ("plain", ZERO)), same(ZERO, ZERO)),
            (("unlike", ("fact", "lie")), FALSE),
            (("inner", ("plain", number(2)), 0), same(number(1), number(1))),
            (ADDING, ("all", "nat", ADDED)),
            (("forms", number(1), (((), "h", ("fact", "rains")), (("x",), "h", ("fact", "rains")))), RAIN),
            (("sure", RAIN), ("or", RAIN, no(RAIN))),
            (("reckon", same(call("twice", number(2)), number(4)), ("plain", number(4))), same(call("twice", number(2)), number(4))),
            (("hole", 1), RAIN),
        ]
        self.assertEqual([reason[0] for reason, statement in rows], list(RIGHT))
        for reason, statement in rows:
            self.bears(reason, statement, context=())

    def test_a_fact_of_the_context_ahead_of_one_of_the_book(self):
        self.bears(("fact", "rains"), RAIN)
        self.bears(("fact", "rains"), FALSE, context=(("fact", "rains", FALSE),))

    def test_into_takes_out_an_earlier_fact_of_its_name(self):
        self.bears(("into", "b", RAIN, ("fact", "b")), ("if", RAIN, RAIN))
        self.bears(("into", "h", RAIN, ("into", "h", FALSE, ("fact", "h"))), ("if", RAIN, ("if", FALSE, FALSE)))

    def test_a_fact_takes_out_no_thing_and_no_fact_with_its_name_as_a_free(self):
        self.bears(("into", "x", RAIN, ("plain", X)), ("if", RAIN, same(X, X)))
        self.bears(("into", "x", RAIN, ("fact", "b")), ("if", RAIN, even(X)))
        self.bears(("into", "x", RAIN, ("into", "x", FALSE, ("fact", "b"))), ("if", RAIN, ("if", FALSE, even(X))))

    def test_a_thing_takes_out_no_fact_of_its_name(self):
        self.bears(("each", "z", "item", ("both", ("plain", free("z")), ("fact", "z"))),
                   ("all", "item", ("and", same(bound(0), bound(0)), even(ZERO))))

    def test_a_thing_takes_out_an_earlier_thing_and_its_facts(self):
        self.bears(("each", "x", "item", ("plain", X)), ("all", "item", same(bound(0), bound(0))))
        for h in ("a", "b", "c", "d", "e", "u", "w", "k", "n"):
            self.fault((0,), ("each", "x", "nat", ("fact", h)))
            self.fault((1,), ("take", ("fact", "there"), "x", "h", ("fact", h)))
        for h in ("f", "p", "r", "z"):
            self.assertIs(place_of(("each", "x", "nat", ("fact", h))), NONE)

    def test_where_the_contexts_fact_is_taken_out_the_books_is_there_again(self):
        context = (("thing", "x", "nat"), ("fact", "rains", even(X)))
        self.bears(("each", "x", "nat", ("fact", "rains")), ("all", "nat", RAIN), context=context)

    def test_a_thing_put_behind_stands_at_the_end(self):
        context = (("thing", "x", "nat"), ("thing", "y", "item"), ("fact", "h", atom("near", Y, Y)), ("fact", "g", even(X)))
        there = (("thing", "y", "item"), ("fact", "h", atom("near", Y, Y)), ("thing", "x", "list"))
        self.bears(("each", "x", "list", ("hole", 0)), ("all", "list", RAIN), context, [(there, RAIN)])

    def test_a_fact_put_behind_stands_at_the_end(self):
        context = (("fact", "h", RAIN), ("fact", "g", FALSE))
        there = (("fact", "g", FALSE), ("fact", "h", EVENS))
        self.bears(("into", "h", EVENS, ("hole", 0)), ("if", EVENS, RAIN), context, [(there, RAIN)])

    def test_each_closes_the_frees_of_its_thing_alone(self):
        self.bears(("each", "m", "nat", ("into", "h", same(M, X), ("each", "o", "nat", ("fact", "h")))),
                   ("all", "nat", ("if", same(bound(0), X), ("all", "nat", same(bound(1), X)))))
        self.bears(("each", "m", "nat", ("fact", "b")), ("all", "nat", even(X)))

    def test_at_opens_the_outermost_all(self):
        told = ("all", "nat", ("if", even(X), ("if", RAIN, same(X, bound(0)))))
        self.bears(("at", ("fact", "sames"), X), told)
        self.bears(("at", ("at", ("fact", "sames"), X), suc(X)), ("if", even(X), ("if", RAIN, same(X, suc(X)))))

    def test_cases_with_one_name_for_both(self):
        self.bears(("cases", ("fact", "e"), "h", ("give", ("fact", "c"), ("fact", "h")), "h", ("fact", "h")), even(Y))
        self.bears(("cases", ("fact", "e"), "e", ("give", ("fact", "c"), ("fact", "e")), "b", ("fact", "b")), even(Y))

    def test_cases_facts_are_not_there_in_the_first_reason_or_the_other(self):
        self.fault((0,), ("cases", ("fact", "h"), "h", TRUTH, "g", TRUTH))
        self.fault((1,), ("cases", ("fact", "e"), "h", ("fact", "g"), "g", ("fact", "g")))
        self.fault((2,), ("cases", ("fact", "e"), "h", ("fact", "h"), "g", ("fact", "h")))

    def test_take_hides_a_thing_of_the_context_in_its_last_reason_alone(self):
        self.bears(("take", ("fact", "there"), "i", "h", ("fact", "rains")), RAIN)
        self.bears(("take", ("left", ("fact", "there"), NEAR)[1], "i", "h", ("with", I, atom("near", bound(0), bound(0)), ("fact", "h"))),
                   ("some", "item", atom("near", bound(0), bound(0))))

    def test_swap_beneath_an_all(self):
        body = ("all", "nat", same(bound(0), bound(1)))
        goals = [(CONTEXT, ("all", "nat", same(bound(0), X)))]
        self.bears(("swap", ("fact", "a"), body, ("hole", 0)), ("all", "nat", same(bound(0), Y)), goals=goals)

    def test_swap_of_a_body_without_its_bound(self):
        self.bears(("swap", ("fact", "a"), RAIN, ("fact", "rains")), RAIN)

    def test_inner_of_each_arg(self):
        self.bears(("inner", ("fact", "p"), 0), same(I, call("spot")))
        self.bears(("inner", ("fact", "k"), 0), same(X, Y))

    def test_induct_over_lists(self):
        body = same(call("len", bound(0)), call("len", bound(0)))
        cons = form("Cons", free("o"), free("m"))
        reason = ("induct", "list", body, (((), (), ("plain", call("len", NIL))), (("o", "m"), ("h",), ("plain", call("len", cons)))))
        self.bears(reason, ("all", "list", body))
        there = CONTEXT + (("thing", "o", "item"), ("thing", "m", "list"), ("fact", "h", same(call("len", M), call("len", M))))
        holes = ("induct", "list", body, (((), (), ("hole", 0)), (("o", "m"), ("h",), ("hole", 1))))
        goals = [(CONTEXT, same(call("len", NIL), call("len", NIL))), (there, same(call("len", cons), call("len", cons)))]
        self.bears(holes, ("all", "list", body), goals=goals)

    def test_induct_over_a_kind_without_parts_of_its_own(self):
        pair = form("Pair", free("o"), M)
        body = same(bound(0), bound(0))
        self.bears(("induct", "pair", body, ((("o", "m"), (), ("plain", pair)),)), ("all", "pair", body))

    def test_induct_hides_a_thing_of_the_context_that_is_not_free_in_its_body(self):
        body = same(bound(0), bound(0))
        rows = (((), (), ("plain", ZERO)), (("x",), ("b",), ("plain", suc(X))))
        self.bears(("induct", "nat", body, rows), ("all", "nat", body))

    def test_forms_of_two_parts(self):
        cons = form("Cons", free("o"), M)
        there = CONTEXT + (("thing", "o", "item"), ("thing", "m", "list"), ("fact", "g", same(L, cons)))
        goals = [(CONTEXT + (("fact", "h", same(L, NIL)),), RAIN), (there, RAIN)]
        self.bears(("forms", L, (((), "h", ("hole", 0)), (("o", "m"), "g", ("hole", 1)))), RAIN, goals=goals)

    def test_sure_of_joined_statements(self):
        A = ("if", ("and", RAIN, even(X)), ("or", FALSE, same(X, Y)))
        self.bears(("sure", A), ("or", A, no(A)))

    def test_reckon_both_ways_and_of_statements_with_alls(self):
        one = ("all", "nat", even(call("add", suc(ZERO), bound(0))))
        other = ("all", "nat", even(suc(bound(0))))
        for told, wanted in ((one, other), (other, one), (one, one), (other, other)):
            self.bears(("reckon", wanted, ("hole", 0)), wanted, goals=[(CONTEXT, told)])

    def test_a_deep_reason(self):
        reason, statement = ("fact", "b"), even(X)
        for turn in range(150):
            reason, statement = ("left", reason, RAIN), ("or", statement, RAIN)
        self.assertFalse(is_great_reason(reason))
        self.bears(reason, statement)
        self.fault((0,) * 150, with_reasons(reason, [reason[1]])[:1] + (self.spoilt(reason, 149), RAIN))

    def spoilt(self, reason, depth):
        """What stands within a row of lefts, its inmost spoilt."""
        made = ("fact", "none")
        for turn in range(depth):
            made = ("left", made, RAIN)
        return made

    def test_a_reason_far_deeper_than_may_be_is_looked_at(self):
        reason = ("plain", ZERO)
        for turn in range(3000):
            reason = ("first", ("both", reason, reason)) if turn < 3 else ("first", ("both", reason, TRUTH))
        self.bears(reason, same(ZERO, ZERO))
        chain = ("nope",)
        for turn in range(3000):
            chain = ("first", chain)
        self.assertEqual(place_of(chain), (0,) * 3000)


class TestDeepStatements(LookCase):
    """A reason within the bounds may bear out a statement far beyond them, and what was told may be handed in again."""

    def deep(self, many):
        """A reason of a same of two sides of so many times fifty nodes."""
        t = M
        for turn in range(50):
            t = suc(t)
        reason = ("plain", M)
        for turn in range(many):
            reason = ("at", ("each", "m", "nat", reason), t)
        return reason

    def test_told_and_handed_in_again(self):
        context = (("thing", "m", "nat"),)
        reason = self.deep(40)
        self.assertFalse(is_great_reason(reason))
        told = looked(LORE, context, reason)
        other = looked(LORE, context, self.deep(40))
        facts = context + (("fact", "h", told),)
        twins = [(context + (("fact", "h", other),), RAIN), (context, other)]
        rows = [("give", ("into", "g", other, ("fact", "g")), ("fact", "h")), ("give", ("into", "g", other, ("hole", 0)), reason),
                ("cases", ("sure", RAIN), "g", ("fact", "h"), "g", reason), ("reckon", other, ("fact", "h")),
                ("swap", ("plain", M), other, ("fact", "h")), ("swap", ("fact", "h"), ("same", bound(0), other[2]), reason),
                ("with", M, other, ("fact", "h")), ("inner", ("fact", "h"), 0),
                ("forms", M, (((), "g", ("fact", "h")), (("o",), "g", reason)))]
        for row in rows:
            self.assertIs(place_of(row, facts, [(facts + (("fact", "g", other),), RAIN)]), NONE, row[0])
        self.assertEqual(looked(LORE, facts, ("hole", 0), twins), RAIN)
        self.assertEqual(place_of(("hole", 1), facts, twins), ())
        self.assertEqual(place_of(("give", ("into", "g", other, ("fact", "g")), self.deep(39)), context, None), ())


class TestFaults(LookCase):

    def test_fact(self):
        self.fault((), ("fact", "none"))
        self.fault((), ("fact", "x"))
        self.fault((), ("fact", "Zero"))
        self.fault((), ("fact", "b"), context=())

    def test_into(self):
        self.fault((), ("into", "rains", RAIN, TRUTH))
        self.fault((), ("into", "h", even(M), TRUTH))
        self.fault((), ("into", "h", even(bound(0)), TRUTH))
        self.fault((), ("into", "h", ("all", "none", RAIN), TRUTH))
        self.fault((), ("into", "h", even(I), TRUTH))
        self.fault((), ("into", "h", X, TRUTH))
        self.fault((), ("into", "H", RAIN, TRUTH))
        self.fault((0,), ("into", "h", RAIN, ("fact", "none")))

    def test_give(self):
        self.fault((), ("give", ("fact", "b"), ("fact", "b")))
        self.fault((), ("give", ("fact", "c"), ("fact", "a")))
        self.fault((), ("give", ("fact", "c"), ("give", ("fact", "c"), ("fact", "b"))))

    def test_each(self):
        self.fault((), ("each", "x", "none", TRUTH))
        self.fault((), ("each", "x", "Zero", TRUTH))
        self.fault((), ("each", "X", "nat", TRUTH))
        self.fault((), ("each", "all", "nat", TRUTH))

    def test_at(self):
        self.fault((), ("at", ("fact", "b"), X))
        self.fault((), ("at", ("fact", "w"), X))
        self.fault((), ("at", ("fact", "u"), I))
        self.fault((), ("at", ("fact", "u"), M))
        self.fault((), ("at", ("fact", "u"), bound(0)))
        self.fault((), ("at", ("fact", "u"), call("add", X)))

    def test_first_and_second(self):
        for word in ("first", "second"):
            for h in ("a", "b", "c", "e", "f", "u", "w"):
                self.fault((), (word, ("fact", h)))

    def test_left_and_right(self):
        for B in (even(M), even(bound(0)), atom("none"), X, None):
            self.fault((), ("left", ("fact", "b"), B))
            self.fault((), ("right", B, ("fact", "b")))

    def test_cases(self):
        h, g = ("fact", "h"), ("fact", "g")
        self.fault((), ("cases", ("fact", "d"), "h", TRUTH, "g", TRUTH))
        self.fault((), ("cases", ("fact", "e"), "h", h, "g", g))
        self.fault((), ("cases", ("fact", "e"), "rains", TRUTH, "g", TRUTH))
        self.fault((), ("cases", ("fact", "e"), "h", TRUTH, "rains", TRUTH))
        self.fault((), ("cases", ("fact", "e"), "H", TRUTH, "g", TRUTH))
        self.fault((), ("cases", ("fact", "e"), "h", TRUTH, None, TRUTH))

    def test_with(self):
        self.fault((), ("with", M, even(bound(0)), ("fact", "b")))
        self.fault((), ("with", X, even(bound(1)), ("fact", "b")))
        self.fault((), ("with", X, atom("near", bound(0), I), ("fact", "b")))
        self.fault((), ("with", I, even(bound(0)), ("fact", "b")))
        self.fault((), ("with", Y, even(bound(0)), ("fact", "b")))
        self.fault((), ("with", bound(0), even(bound(0)), ("fact", "b")))
        self.fault((), ("with", X, None, ("fact", "b")))

    def test_take(self):
        good = ("fact", "rains")
        self.fault((), ("take", ("fact", "u"), "m", "h", good))
        self.fault((), ("take", ("fact", "w"), "m", "rains", good))
        self.fault((), ("take", ("fact", "w"), "M", "h", good))
        self.fault((), ("take", ("fact", "w"), "m", "H", good))
        self.fault((), ("take", ("fact", "w"), "x", "h", good))
        self.fault((), ("take", ("fact", "w"), "m", "h", ("fact", "h")))
        self.fault((0,), ("take", ("fact", "h"), "m", "h", good))

    def test_never(self):
        self.fault((), ("never", ("fact", "b"), RAIN))
        self.fault((), ("never", ("fact", "f"), even(M)))
        self.fault((), ("never", ("fact", "f"), even(bound(0))))
        self.fault((), ("never", ("fact", "f"), ZERO))

    def test_plain(self):
        for t in (M, bound(0), call("none"), call("add", X), suc(I), RAIN, None):
            self.fault((), ("plain", t))

    def test_swap(self):
        for h in ("b", "c", "d", "e", "f", "u", "w"):
            self.fault((), ("swap", ("fact", h), even(bound(0)), ("fact", "b")))
        self.fault((), ("swap", ("fact", "a"), even(bound(0)), ("fact", "z")))
        self.fault((), ("swap", ("fact", "a"), even(bound(1)), ("fact", "b")))
        self.fault((), ("swap", ("fact", "a"), atom("near", bound(0), I), ("fact", "b")))
        self.fault((), ("swap", ("fact", "a"), even(M), ("fact", "b")))
        self.fault((), ("swap", ("fact", "a"), None, ("fact", "b")))
        self.fault((), ("swap", ("fact", "p"), even(bound(0)), ("fact", "b")))

    def test_unlike(self):
        for h in ("a", "b", "k", "p", "d", "u"):
            self.fault((), ("unlike", ("fact", h)))
        for t, u in ((X, ZERO), (ZERO, X), (call("add", ZERO, ZERO), suc(ZERO)), (suc(ZERO), call("add", ZERO, ZERO)), (ZERO, ZERO)):
            self.fault((), ("unlike", ("hole", 0)), goals=[(CONTEXT, same(t, u))], context=CONTEXT)

    def test_inner(self):
        for h in ("a", "b", "n", "d"):
            self.fault((), ("inner", ("fact", h), 0))
        self.fault((), ("inner", ("fact", "k"), 1))
        self.fault((), ("inner", ("fact", "p"), 2))
        self.fault((), ("inner", ("fact", "p"), -1))
        self.fault((), ("inner", ("fact", "p"), True))
        self.fault((), ("inner", ("plain", ZERO), 0))
        self.fault((), ("inner", ("plain", call("add", X, Y)), 0))
        for t, u in ((X, suc(X)), (suc(X), X), (form("Left", X), form("Right", X))):
            self.fault((), ("inner", ("hole", 0), 0), goals=[(CONTEXT, same(t, u))])

    def test_induct(self):
        body = same(bound(0), bound(0))
        zero, step = ((), (), ("plain", ZERO)), (("m",), ("h",), ("plain", suc(M)))
        self.assertIs(place_of(("induct", "nat", body, (zero, step))), NONE)
        wrong = [
            ("induct", "item", body, (zero, step)),
            ("induct", "item", body, ()),
            ("induct", "none", body, (zero, step)),
            ("induct", "nat", same(bound(1), bound(0)), (zero, step)),
            ("induct", "nat", atom("near", bound(0), bound(0)), (zero, step)),
            ("induct", "nat", body, (zero,)),
            ("induct", "nat", body, (zero, step, step)),
            ("induct", "nat", body, ()),
            ("induct", "nat", body, [zero, step]),
            ("induct", "nat", body, (step, zero)),
            ("induct", "nat", body, ((("m",), (), TRUTH), step)),
            ("induct", "nat", body, (((), ("h",), TRUTH), step)),
            ("induct", "nat", body, (zero, ((), ("h",), TRUTH))),
            ("induct", "nat", body, (zero, (("m", "o"), ("h",), TRUTH))),
            ("induct", "nat", body, (zero, (("m",), (), TRUTH))),
            ("induct", "nat", body, (zero, (("m",), ("h", "g"), TRUTH))),
            ("induct", "nat", body, (zero, (("m",), ("m",), ("plain", suc(M))))),
            ("induct", "nat", body, (zero, (("m",), ("rains",), ("plain", suc(M))))),
            ("induct", "nat", body, (zero, (("M",), ("h",), TRUTH))),
            ("induct", "nat", body, (zero, (("m",), "h", TRUTH))),
            ("induct", "nat", body, (zero, ("m", ("h",), TRUTH))),
            ("induct", "nat", body, (zero, (("m",), ("h",)))),
            ("induct", "nat", same(bound(0), M), (zero, step)),
            ("induct", "nat", ("if", even(X), body), (zero, (("x",), ("h",), TRUTH))),
            ("induct", "nat", same(X, X), (((), (), ("plain", X)), (("x",), ("h",), ("plain", X)))),
            ("induct", "nat", same(bound(0), ZERO), (zero, step)),
            ("induct", "nat", body, (((), (), ("plain", suc(ZERO))), step)),
        ]
        for reason in wrong:
            self.fault((), reason)
        self.fault((1,), ("induct", "nat", body, (zero, (("m",), ("h",), ("plain", free("o"))))))

    def test_induct_of_two_parts_with_one_name(self):
        body = same(bound(0), bound(0))
        self.fault((), ("induct", "pair", body, ((("m", "m"), (), TRUTH),)))
        tree = Lore(BOOK_ROWS + [("kind", "tree", (("Tip", ()), ("Fork", ("tree", "item", "tree"))))])
        rows = (((), (), ("plain", form("Tip"))),
                (("l", "m", "o"), ("h", "g"), ("plain", form("Fork", free("l"), M, free("o")))))
        self.assertEqual(looked(tree, (), ("induct", "tree", body, rows)), ("all", "tree", body))
        fork = form("Fork", free("l"), M, free("o"))
        there = (("thing", "l", "tree"), ("thing", "m", "item"), ("thing", "o", "tree"), ("fact", "h", same(L, L)),
                 ("fact", "g", same(free("o"), free("o"))))
        goals = [(there, same(fork, fork))]
        holes = (rows[0], rows[1][:2] + (("hole", 0),))
        self.assertEqual(looked(tree, (), ("induct", "tree", body, holes), goals), ("all", "tree", body))
        for hs in (("h", "h"), ("h", "l"), ("m", "g"), ("h",), ("h", "g", "k")):
            spoilt = (rows[0], (rows[1][0], hs, rows[1][2]))
            self.assertEqual(place_of(("induct", "tree", body, spoilt), (), None, tree), ())

    def test_forms(self):
        zero, step = ((), "h", ("fact", "rains")), (("m",), "g", ("fact", "rains"))
        self.assertIs(place_of(("forms", X, (zero, step))), NONE)
        wrong = [
            ("forms", I, (zero, step)),
            ("forms", I, ()),
            ("forms", M, (zero, step)),
            ("forms", bound(0), (zero, step)),
            ("forms", X, (zero,)),
            ("forms", X, (zero, step, step)),
            ("forms", X, [zero, step]),
            ("forms", X, (step, zero)),
            ("forms", X, (zero, ((), "g", TRUTH))),
            ("forms", X, (zero, (("m", "o"), "g", TRUTH))),
            ("forms", X, (zero, (("m",), "m", ("fact", "rains")))),
            ("forms", X, (zero, (("m",), "rains", ("fact", "rains")))),
            ("forms", X, (((), "rains", ("fact", "rains")), step)),
            ("forms", X, (zero, (("m",), ("g",), ("fact", "rains")))),
            ("forms", X, (zero, (("x",), "g", ("fact", "rains")))),
            ("forms", X, (zero, (("m",), "g", ("fact", "b")))),
            ("forms", X, (zero, (("m",), "g", ("fact", "g")))),
            ("forms", X, (((), "h", ("fact", "b")), (("m",), "g", ("plain", M)))),
            ("forms", suc(Y), (((), "h", ("fact", "b")), (("y",), "g", ("fact", "b")))),
        ]
        for reason in wrong:
            self.fault((), reason)
        self.fault((), ("forms", L, (((), "h", ("fact", "rains")), (("m", "m"), "g", ("fact", "rains")))))
        context = CONTEXT + (("thing", "m", "nat"),)
        self.fault((), ("forms", X, (((), "h", ("plain", M)), (("m",), "g", ("plain", M)))), context=context)
        self.fault((0,), ("forms", X, (((), "h", ("fact", "none")), step)))
        self.fault((1,), ("forms", X, (zero, (("m",), "g", ("fact", "h")))))

    def test_sure(self):
        for A in (EVENS, ("some", "nat", RAIN), ("and", RAIN, EVENS), ("if", ("or", EVENS, RAIN), RAIN), even(M), even(bound(0)), X, None):
            self.fault((), ("sure", A))

    def test_reckon(self):
        self.fault((), ("reckon", even(suc(X)), ("fact", "b")))
        self.fault((), ("reckon", even(call("add", X, ZERO)), ("fact", "b")))
        self.fault((), ("reckon", even(M), ("fact", "b")))
        self.fault((), ("reckon", even(bound(0)), ("fact", "b")))
        self.fault((), ("reckon", None, ("fact", "b")))

    def test_reckoning_beyond_its_bounds(self):
        great = even(call("twice", number(40)))
        self.fault((), ("reckon", great, ("hole", 0)), goals=[(CONTEXT, great)])
        self.fault((), ("reckon", even(X), ("hole", 0)), goals=[(CONTEXT, great)])
        self.fault((), ("reckon", great, ("fact", "b")))
        steps = Lore(BOOK_ROWS + [("rule", "count", ("nat",), "nat", (ZERO, call("add", call("count", bound(0)), call("count", bound(0)))))])
        long = even(call("count", number(11)))
        self.assertEqual(place_of(("both", TRUTH, ("reckon", long, ("reckon", long, ("at", ("fact", "evens"), ZERO)))), (), None, steps),
                         (1, 0))
        short = even(call("count", number(5)))
        self.assertEqual(looked(steps, (), ("reckon", short, ("at", ("fact", "evens"), ZERO))), short)

    def test_hole(self):
        self.fault((), ("hole", 0), goals=None)
        self.fault((), ("hole", 0), goals=[])
        self.fault((), ("hole", 3))
        self.fault((), ("hole", 1))
        self.fault((), ("hole", -1))
        self.fault((), ("hole", True))
        self.fault((), ("hole", False))
        self.fault((), ("hole", "0"))
        self.bears(("hole", 1), RAIN, context=())
        self.fault((), ("hole", 0), context=())

    def test_hole_in_another_context(self):
        self.bears(("into", "h", RAIN, ("hole", 2)), ("if", RAIN, NEAR))
        self.fault((0,), ("into", "g", RAIN, ("hole", 2)))
        self.fault((0,), ("into", "h", FALSE, ("hole", 2)))
        self.fault((0,), ("into", "h", RAIN, ("hole", 0)))
        self.fault((0, 0), ("into", "h", RAIN, ("into", "g", RAIN, ("hole", 2))))
        self.fault((), ("hole", 0), goals=[(CONTEXT[:-1], RAIN)])
        self.fault((), ("hole", 0), goals=[(CONTEXT[:-2] + (CONTEXT[-1], CONTEXT[-2]), RAIN)])
        self.fault((), ("hole", 0), goals=[(CONTEXT[1:], RAIN)])

    def test_one_hole_may_stand_often(self):
        self.bears(("both", ("hole", 0), ("hole", 0)), ("and", even(suc(X)), even(suc(X))))

    def test_names_of_facts_that_are_the_books_are_free_for_things(self):
        self.bears(("each", "rains", "nat", ("fact", "rains")), ("all", "nat", RAIN))

    def test_names_that_begin_with_settle_may_be_put_behind(self):
        self.bears(("into", "settlea", RAIN, ("fact", "settlea")), ("if", RAIN, RAIN))


class TestOrderOfLooks(LookCase):
    """Two faults in one reason: the first one on the way is told."""

    def test_its_own_ahead_of_those_within(self):
        bad = ("fact", "none")
        for reason in (("into", "rains", RAIN, bad), ("into", "h", even(M), bad), ("each", "x", "none", bad), ("at", bad, M),
                       ("left", bad, even(M)), ("right", even(M), bad), ("cases", bad, "rains", bad, "g", bad),
                       ("cases", bad, "h", bad, "rains", bad), ("with", M, even(bound(0)), bad), ("with", X, even(bound(1)), bad),
                       ("take", bad, "x", "rains", bad), ("never", bad, even(M)), ("inner", bad, "x"), ("induct", "nat", even(bound(0)), ()),
                       ("induct", "nat", even(bound(0)), (((), (), bad), (("m",), ("rains",), bad))),
                       ("forms", X, (((), "h", bad), (("x",), "g", bad))), ("reckon", even(M), bad)):
            self.fault((), reason)

    def test_from_the_left(self):
        bad = ("fact", "none")
        for reason in (("give", bad, bad), ("both", bad, bad), ("cases", bad, "h", bad, "g", bad), ("take", bad, "x", "h", bad),
                       ("swap", bad, even(bound(0)), bad), ("forms", X, (((), "h", bad), (("m",), "g", bad))),
                       ("induct", "nat", even(bound(0)), (((), (), bad), (("m",), ("g",), bad)))):
            self.fault((0,), reason)
        self.fault((1,), ("cases", ("fact", "e"), "h", bad, "g", bad))

    def test_a_swaps_body_as_soon_as_its_kind_is_known(self):
        bad = ("fact", "none")
        for body in (even(M), even(bound(1)), atom("near", bound(0), I), None):
            self.fault((0,), ("swap", bad, body, bad))
            self.fault((), ("swap", ("fact", "a"), body, bad))

    def test_what_is_wanted_ahead_of_the_next_within(self):
        bad = ("fact", "none")
        for reason in (("give", ("fact", "b"), bad), ("cases", ("fact", "d"), "h", bad, "g", bad), ("take", ("fact", "u"), "m", "h", bad),
                       ("take", ("fact", "w"), "x", "h", bad), ("swap", ("fact", "b"), even(bound(0)), bad),
                       ("induct", "nat", same(bound(0), bound(0)), (((), (), ("plain", suc(ZERO))), (("m",), ("h",), bad)))):
            self.fault((), reason)
        tree = Lore(BOOK_ROWS + [("kind", "two", (("One", ("nat",)), ("Two", ()), ("Three", ())))])
        there = (("thing", "m", "nat"), ("thing", "t", "two"))
        self.assertEqual(place_of(("forms", free("t"), ((("m",), "h", ("plain", M)), ((), "h", bad), ((), "h", bad))), there, None, tree), ())
        self.assertEqual(place_of(("forms", free("t"), ((("o",), "h", TRUTH), ((), "h", ("plain", M)), ((), "h", bad))), there, None, tree), ())
        self.assertEqual(place_of(("forms", free("t"), ((("o",), "h", TRUTH), ((), "h", TRUTH), ((), "h", bad))), there, None, tree), (2,))

    def test_where_it_stands_in_rows(self):
        rows = ("both", ("both", TRUTH, ("first", TRUTH)), ("fact", "none"))
        self.fault((0, 1), rows)


class TestAnything(LookCase):

    def test_as_the_reason(self):
        for thing in odd_things():
            self.fault((), thing)
            self.assertEqual(place_of(thing, (), None), ())

    def test_at_each_place_of_each_reason(self):
        for word, (reason, statement) in RIGHT.items():
            inner = reasons_in(reason)
            for k in range(len(inner)):
                for thing in odd_things():
                    self.assertEqual(place_of(with_reasons(reason, inner[:k] + [thing] + inner[k + 1:])), (k,), (word, k, thing))
            for k, (sort, part) in enumerate(sorted_parts(reason), 1):
                if sort != "reason":
                    for thing in odd_things() + [(("nope",),), "X", -1, [reason[k]]]:
                        spoilt = reason[:k] + (thing,) + reason[k + 1:]
                        told = place_of(spoilt)
                        fine = sort == "x" and thing == "x" or sort == "number" and type(thing) is int and thing in (0, 1)
                        fine = fine or sort in ("h", "x") and word in ("into", "cases", "take", "each") and thing == "x"
                        fine = fine or word == "never" and thing == FALSE or word == "left" and thing == FALSE
                        fine = fine or word == "right" and thing == FALSE or word == "sure" and thing == FALSE
                        fine = fine or word == "into" and sort == "statement" and thing == FALSE
                        if fine:
                            continue
                        self.assertEqual(told, (), (word, k, thing))

    def test_a_part_less_or_more_or_a_list(self):
        for word, (reason, statement) in RIGHT.items():
            for thing in (reason[:-1], reason + (TRUTH,), reason + ("x",), list(reason), (word.title(),) + reason[1:], (word,), reason[1:]):
                self.fault((), thing)

    def test_rows_of_anything(self):
        for thing in odd_things():
            for row in (thing, (thing, (), TRUTH), ((), thing, TRUTH)):
                if row == ((), (), TRUTH):
                    continue
                self.fault((), ("induct", "nat", EVENS[2], (row, (("m",), ("h",), TRUTH))))
            for row in (thing, (thing, "h", TRUTH), ((), thing, TRUTH)):
                if row in (((), "h", TRUTH), ((), "x", TRUTH)):
                    continue
                self.fault((), ("forms", X, (row, (("m",), "h", TRUTH))))

    def test_nothing_handed_in_is_changed(self):
        goals = list(GOALS)
        looked(LORE, CONTEXT, RIGHT["hole"][0], goals)
        self.assertEqual(goals, GOALS)


class TestAgainstTheSlowLooker(LookCase):
    """Reasons spoilt by chance: the program tells what the plain recursion tells."""

    def pieces(self):
        reasons = [reason for reason, statement in RIGHT.values()]
        for reason in list(reasons):
            reasons.extend(reasons_in(reason))
        statements = [entry[2] for entry in CONTEXT if entry[0] == "fact"] + [EVENS[2], ADDED, RAIN, even(M)]
        return {"reason": reasons, "h": ["a", "b", "c", "d", "e", "g", "h", "u", "w", "rains", "H"], "x": ["x", "y", "m", "o", "l"],
                "K": ["nat", "item", "list", "none"], "statement": statements, "body": statements, "number": [0, 1, 2],
                "term": [X, Y, I, L, M, ZERO, suc(X), call("add", X, Y), bound(0)],
                "induct rows": [ADDING[3], ADDING[3][:1]], "forms rows": [RIGHT["forms"][0][2]]}

    def spoilt(self, rng, pieces, reason):
        inner = reasons_in(reason)
        if inner and rng.random() < 0.6:
            k = rng.randrange(len(inner))
            return with_reasons(reason, inner[:k] + [self.spoilt(rng, pieces, inner[k])] + inner[k + 1:])
        parts = sorted_parts(reason)
        if not parts or rng.random() < 0.2:
            return rng.choice(pieces["reason"])
        k = rng.randrange(len(parts))
        return reason[:k + 1] + (rng.choice(pieces[parts[k][0]]),) + reason[k + 2:]

    def test_many(self):
        rng = random.Random(5)
        pieces = self.pieces()
        taken = 0
        for turn in range(6000):
            reason = rng.choice(pieces["reason"])
            for more in range(rng.randrange(1, 4)):
                reason = self.spoilt(rng, pieces, reason)
            try:
                told = slowlook.looked(BOOK_ROWS, CONTEXT, reason, GOALS)
            except slowlook.Fault as fault:
                self.assertEqual(place_of(reason), fault.place, reason)
            else:
                self.assertEqual(looked(LORE, CONTEXT, reason, GOALS), told)
                taken += 1
        self.assertGreater(taken, 600)


if __name__ == "__main__":
    unittest.main()
