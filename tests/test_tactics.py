"""tactics: met, rows of tactics, and the bounds of point 6 (points 3, 6, 16 and 21)."""

import random
import unittest

import makingtactics
import slow
from looksamples import BOOK_ROWS, CONTEXT, EVENS, I, L, NEAR, RAIN, X, Y, even, no
from meeting import LORE, MeetCase
from samples import FALSE, ZERO, bound, call, free, number, odd_things, raised, same, suc
from tacticwright.errors import NoTactic
from tacticwright.looker import looked
from tacticwright.lore import Lore
from tacticwright.reasons import reason_depth, reason_nodes
from tacticwright.tactics import met
from tacticwright.terms import nodes
from test_plain import behind, fact, thing

DONE = ("done",)
WRONG = [None, "nope", ("nope",), ("into",), [DONE], 3, ()]


def both(many):
    """A statement of so many ands, no deeper than needs be, of statements that are all alike."""
    if many == 0:
        return RAIN
    half = (many - 1) // 2
    return ("and", both(half), both(many - 1 - half))


def sized(many):
    """A term of kind nat of so many nodes."""
    if many <= 2:
        return X if many == 1 else suc(X)
    half = (many - 1) // 2
    return call("add", sized(half), sized(many - 1 - half))


class TestThen(MeetCase):

    def test_at_each_goal_that_came(self):
        G = ("and", ("if", RAIN, even(X)), ("if", RAIN, even(Y)))
        self.meets(G, ("then", ("both",), ("into", "h")), (behind(fact("h", RAIN)), even(X)), (behind(fact("h", RAIN)), even(Y)))

    def test_in_their_order(self):
        G = ("and", ("and", RAIN, even(X)), ("and", even(Y), NEAR))
        self.meets(G, ("then", ("both",), ("both",)), RAIN, even(X), even(Y), NEAR)
        self.meets(even(Y), ("then", ("use", "c", ()), ("back", "a")), ("if", same(X, Y), even(X)))
        self.meets(RAIN, ("then", ("have", "h", even(Y)), ("try", ("apart", "h", ()))), even(Y), (behind(fact("h", even(Y))), RAIN))

    def test_where_some_are_met_and_some_stay(self):
        G = ("and", ("and", RAIN, even(Y)), ("and", even(X), NEAR))
        close = ("try", ("first", (("by", "b"), ("by", "rains"))))
        self.meets(G, ("then", ("then", ("both",), ("both",)), close), even(Y), NEAR)

    def test_fails_where_either_does(self):
        G = ("and", RAIN, even(X))
        self.fails(G, ("then", ("left",), ("both",)), ("then", ("both",), ("left",)), ("then", ("both",), ("by", "b")),
                   ("then", ("both",), DONE), ("then", DONE, ("both",)))

    def test_done_behind_what_leaves_no_goal(self):
        self.meets(even(X), ("then", ("by", "b"), DONE))

    def test_what_is_not_come_to_is_not_looked_at(self):
        for wrong in WRONG + odd_things():
            self.meets(even(X), ("then", ("by", "b"), wrong))
            self.fails(even(X), ("then", ("by", "a"), wrong), ("then", wrong, ("by", "b")), ("then", ("back", "b"), wrong))

    def test_shapes(self):
        self.fails(even(X), ("then", ("by", "b")), ("then",), ("then", ("by", "b"), DONE, DONE), ["then", ("by", "b"), DONE])


class TestFirstTryDone(MeetCase):

    def test_first(self):
        self.meets(even(X), ("first", (("by", "a"), ("left",), ("by", "b"), ("back", "a"))))
        self.meets(even(X), ("first", (("back", "b"), ("by", "b"))), ("if", even(X), even(X)))
        self.meets(even(X), ("first", (DONE, ("then", ("back", "b"), DONE), ("back", "a"))), ("if", same(X, Y), even(X)))

    def test_first_fails_where_all_do(self):
        self.fails(even(X), ("first", ()), ("first", (DONE,)), ("first", (("by", "a"), ("both",), DONE)))

    def test_first_looks_at_what_it_comes_to_alone(self):
        for wrong in WRONG + odd_things():
            self.meets(even(X), ("first", (("by", "b"), wrong)))
            self.meets(even(X), ("first", (wrong, ("by", "b"))))
            if wrong != ():
                self.fails(even(X), ("first", wrong), ("first", (wrong,)))
        self.fails(even(X), ("first", [("by", "b")]), ("first", ("by", "b")), ("first", ("by", "b"), ("by", "b")), ("first",))

    def test_try(self):
        self.meets(even(X), ("try", ("by", "b")))
        self.meets(even(X), ("try", ("by", "a")), even(X))
        self.meets(("and", RAIN, NEAR), ("try", ("both",)), RAIN, NEAR)
        self.meets(("and", RAIN, NEAR), ("try", ("then", ("both",), ("by", "rains"))), ("and", RAIN, NEAR))
        for wrong in WRONG + odd_things():
            self.meets(even(X), ("try", wrong), even(X))
        self.fails(even(X), ("try",), ("try", ("by", "b"), ("by", "b")), ["try", ("by", "b")])

    def test_done(self):
        for G in (RAIN, even(X), ("and", RAIN, RAIN)):
            self.fails(G, DONE, ("then", ("try", DONE), DONE))
        self.fails(RAIN, ("done", 1), ["done"])


class TestAgain(MeetCase):

    def test_where_it_fails_nothing(self):
        self.meets(even(X), ("again", ("both",)), even(X))
        for wrong in WRONG + odd_things():
            self.meets(even(X), ("again", wrong), even(X))

    def test_at_each_goal_that_came(self):
        G = ("and", ("and", RAIN, ("and", even(X), even(Y))), ("and", NEAR, FALSE))
        self.meets(G, ("again", ("both",)), RAIN, even(X), even(Y), NEAR, FALSE)
        close = ("first", (("both",), ("by", "b"), ("by", "rains")))
        self.meets(G, ("again", close), even(Y), NEAR, FALSE)
        self.meets(("and", RAIN, ("and", even(X), RAIN)), ("again", close))

    def test_up_to_a_hundred_times(self):
        self.meets(both(100), ("again", ("both",)), *[RAIN] * 101)
        self.fails(both(101), ("again", ("both",)))
        close = ("first", (("both",), ("by", "rains")))
        self.meets(both(49), ("again", close))
        self.meets(both(50), ("again", ("then", ("both",), ("try", ("by", "rains")))))
        self.fails(both(50), ("again", close))

    def test_failing_does_not_count(self):
        self.meets(both(99), ("again", ("both",)), *[RAIN] * 100)

    def test_what_leaves_the_goal_as_it_was_goes_on_without_end(self):
        self.fails(even(X), ("again", ("try", DONE)))
        self.meets(even(X), ("again", ("again", ("by", "b"))))
        self.fails(even(X), ("again", ("again", ("by", "a"))))

    def test_each_again_has_its_own_count(self):
        G = ("and", both(60), both(60))
        self.fails(G, ("again", ("both",)))
        self.meets(G, ("then", ("both",), ("again", ("both",))), *[RAIN] * 122)
        self.meets(G, ("first", (("again", ("both",)), ("both",))), both(60), both(60))

    def test_up_to_the_greatest_goal(self):
        deep = RAIN
        for turn in range(60):
            deep = ("if", RAIN, deep)
        self.meets(RAIN, ("again", ("back", "a")), (((fact("a", RAIN)),), deep), context=(fact("a", RAIN),))

    def test_shapes(self):
        self.fails(both(3), ("again",), ("again", ("both",), ("both",)), ["again", ("both",)])


class TestBounds(MeetCase):

    def test_a_goal_of_just_as_many_nodes_as_may_be(self):
        G = ("some", "nat", ("and", even(bound(0)), even(sized(900))))
        self.assertEqual(nodes(even(sized(900))), 901)
        self.meets(G, ("with", sized(1097)), ("and", even(sized(1097)), even(sized(900))))
        self.assertEqual(nodes(("and", even(sized(1097)), even(sized(900)))), 2000)
        self.fails(G, ("with", sized(1098)))

    def test_a_goal_just_as_deep_as_may_be(self):
        t, u = suc(number(29)), suc(number(28))
        body = bound(0)
        for turn in range(29):
            body = suc(body)
        G = ("some", "nat", even(body))
        self.assertEqual(slow.height(even(suc(suc(number(58))))), 61)
        self.meets(G, ("with", number(30)), even(number(59)))
        self.fails(G, ("with", number(31)))

    def test_a_fact_that_comes(self):
        told = even(call("add", ZERO, sized(1998)))
        self.assertEqual(nodes(told), 2001)
        context = CONTEXT + (fact("h", ("and", even(sized(1000)), even(call("add", ZERO, sized(900))))),)
        self.asked((context, RAIN), ("tidy", "h", "g"))
        A = ("and", even(sized(900)), even(sized(1096)))
        self.assertEqual(nodes(("if", A, FALSE)), 2001)
        self.fails(RAIN, ("sure", A, "h", "g"))
        self.fails(EVENS, ("sure", both(999), "h", "g"), context=())
        self.meets(EVENS, ("sure", both(998), "h", "g"), ((fact("h", both(998)),), EVENS), ((fact("g", no(both(998))),), EVENS), context=())
        A = ("and", even(sized(900)), even(sized(1095)))
        self.meets(RAIN, ("sure", A, "h", "g"), (behind(fact("h", A)), RAIN), (behind(fact("g", no(A))), RAIN))

    def use(self, *sizes):
        """The lore and goal of a fact of so many alls, and a use of it with terms of these sizes."""
        told = RAIN
        for size in sizes:
            told = ("all", "nat", told)
        lore = Lore(BOOK_ROWS + [("taken", "many", told)])
        return lore, ("use", "many", tuple(sized(size) for size in sizes))

    def test_a_reason_of_just_as_many_nodes_as_may_be(self):
        lore, tactic = self.use(*[1999] * 9, 1998)
        come, p = self.asked((CONTEXT, RAIN), tactic, lore)
        self.assertEqual(reason_nodes(p), 20000)
        lore, tactic = self.use(*[1999] * 10)
        self.fails(RAIN, tactic, lore=lore)
        self.meets(RAIN, ("try", tactic), RAIN, lore=lore)

    def test_of_a_row_of_tactics_its_own_reason(self):
        lore, tactic = self.use(*[1999] * 5)
        self.asked((CONTEXT, ("and", RAIN, NEAR)), ("then", ("both",), ("try", tactic)), lore)
        self.fails(("and", RAIN, RAIN), ("then", ("both",), tactic), lore=lore)
        self.meets(("and", RAIN, RAIN), ("try", ("then", ("both",), tactic)), ("and", RAIN, RAIN), lore=lore)
        self.fails(("and", RAIN, RAIN), ("again", ("first", (("both",), tactic))), lore=lore)

    def test_a_reason_just_as_deep_as_may_be(self):
        names = [a + b for a in "mnopqrs" for b in "abcdefghijk"]

        def tactic(many):
            return ("again", ("then", ("back", "a"), ("first", tuple(("into", name) for name in names[:many]))))
        context = (fact("a", RAIN),)
        told = [fact("a", RAIN)] + [fact(name, RAIN) for name in names[:75]]
        come, p = self.asked((context, RAIN), tactic(75))
        self.assertEqual(come, [(tuple(told), RAIN)])
        self.assertEqual(reason_depth(p), 150)
        self.fails(RAIN, tactic(76), context=context)


class TestMet(MeetCase):

    def test_anything_as_a_tactic(self):
        for G in (RAIN, EVENS, ("and", RAIN, RAIN), same(X, X)):
            for wrong in WRONG + odd_things():
                self.fails(G, wrong)
        self.fails(RAIN, ("settle", 1), ("fact", "rains"), ("hole", 0), ("give", ("fact", "a"), ("fact", "b")), ("run",))

    def test_the_list_is_the_askers_own(self):
        goal = (CONTEXT, ("and", RAIN, NEAR))
        for tactic in (("both",), ("try", DONE), ("again", DONE)):
            come, p = met(LORE, goal, tactic)
            kept = list(come)
            come.clear()
            self.assertEqual(met(LORE, goal, tactic)[0], kept)

    def test_deep_and_many_tactics(self):
        tactic = ("by", "b")
        for turn in range(20):
            tactic = ("try", tactic)
        self.meets(even(X), tactic)
        self.meets(even(X), ("first", (DONE,) * 198 + (("by", "b"),)))

    def test_by_a_lore_whose_reasons_are_none(self):
        lore = Lore(BOOK_ROWS + [("reasoned", "bare", NEAR[:1] + ("near", (call("spot"), call("spot"))), None)])
        self.meets(("atom", "near", (call("spot"), call("spot"))), ("by", "bare"), lore=lore)


def slow_goals(goal, tactic, rows=LORE):
    """The goals that come, rows of tactics told by plain recursion; None where it fails."""
    word = tactic[0]
    if word == "done":
        return None
    if word == "then":
        between = slow_goals(goal, tactic[1])
        told = None if between is None else [slow_goals(one, tactic[2]) for one in between]
        return None if told is None or None in told else sum(told, [])
    if word == "first":
        told = [slow_goals(goal, one) for one in tactic[1]]
        return next((one for one in told if one is not None), None)
    if word == "try":
        told = slow_goals(goal, tactic[1])
        return [goal] if told is None else told
    if word == "again":
        count = []

        def again(one):
            told = slow_goals(one, tactic[1]) if len(count) <= 100 else None
            if told is None:
                return [one]
            count.append(1)
            return sum([again(more) for more in told], [])
        told = again(goal)
        return None if len(count) > 100 else told
    try:
        return met(LORE, goal, tactic)[0]
    except NoTactic:
        return None


class TestMany(MeetCase):

    def test_tactics_by_chance(self):
        rng = random.Random(17)
        words = {}
        for turn in range(5000):
            goal = makingtactics.goal(rng, BOOK_ROWS)
            tactic = makingtactics.tactic(rng, BOOK_ROWS, goal)
            if raised(NoTactic, met, LORE, goal, tactic) is None:
                self.asked(goal, tactic)
                words[tactic[0]] = words.get(tactic[0], 0) + 1
        self.assertEqual(len(words), 19, words)
        self.assertGreater(min(words.values()), 3, words)

    def test_rows_by_chance(self):
        rng = random.Random(23)
        gone = 0
        for turn in range(2500):
            goal = makingtactics.goal(rng, BOOK_ROWS)
            tactic = makingtactics.row(rng, BOOK_ROWS, goal, rng.randrange(1, 4))
            wanted = slow_goals(goal, tactic)
            if wanted is None:
                self.fails(goal[1], tactic, context=goal[0])
            else:
                come, p = self.asked(goal, tactic)
                self.assertEqual(come, wanted, tactic)
                gone += come != [goal]
        self.assertGreater(gone, 300)


if __name__ == "__main__":
    unittest.main()
