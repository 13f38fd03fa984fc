"""Works: goals, reasons, deeds and taking them back (points 3, 6, 16 to 22)."""

import random
import unittest

import makingtactics
import plaingoals
from looksamples import ADDED, BOOK_ROWS, CONTEXT, EVENS, I, NEAR, RAIN, X, Y, even, no
from meeting import LORE
from samples import FALSE, ZERO, atom, bound, call, form, free, odd_things, raised, same, suc
from tacticwright.books import Book
from tacticwright.errors import NoTactic, NoTerm
from tacticwright.looker import looked
from tacticwright.lore import Lore
from tacticwright.reasons import reason_depth, reason_nodes
from tacticwright.tactics import met
from tacticwright.works import Work
from test_plain import behind, fact, thing
from working import WorkCase, stated, work_at

# A statement at CONTEXT, a tactic of each word, and what comes in the goal's place, a statement alone being in CONTEXT.
DEEDS = [
    (("if", RAIN, NEAR), ("into", "h"), [(behind(fact("h", RAIN)), NEAR)]),
    (EVENS, ("into", "m"), [(behind(thing("m", "nat")), even(free("m")))]),
    (even(X), ("by", "b"), []),
    (even(X), ("by", "nope"), None),
    (even(Y), ("use", "c", ()), [even(X)]),
    (same(X, Y), ("use", "sames", (X, Y)), [even(X), RAIN]),
    (NEAR, ("have", "h", RAIN), [RAIN, (behind(fact("h", RAIN)), NEAR)]),
    (NEAR, ("back", "b"), [("if", even(X), NEAR)]),
    (even(X), ("back", "x"), [("all", "nat", even(bound(0)))]),
    (("and", RAIN, NEAR), ("both",), [RAIN, NEAR]),
    (("or", RAIN, NEAR), ("left",), [RAIN]),
    (("or", RAIN, NEAR), ("right",), [NEAR]),
    (("some", "nat", even(bound(0))), ("with", suc(X)), [even(suc(X))]),
    (NEAR, ("apart", "d", ("g", "h")), [(behind(fact("g", even(X)), fact("h", RAIN)), NEAR)]),
    (NEAR, ("apart", "e", ("g", "h")), [(behind(fact("g", even(X))), NEAR), (behind(fact("h", even(Y))), NEAR)]),
    (NEAR, ("apart", "w", ("m", "h")), [(behind(thing("m", "nat"), fact("h", same(free("m"), X))), NEAR)]),
    (NEAR, ("apart", "f", ()), []),
    (same(call("add", ZERO, X), X), ("plain",), []),
    (even(call("add", ZERO, X)), ("reckon",), [even(X)]),
    (even(X), ("reckon",), None),
    (NEAR, ("unlike", "n"), []),
    (NEAR, ("inner", "k", ("h",)), [(behind(fact("h", same(X, Y))), NEAR)]),
    (even(X), ("turn", "a", (), "on"), [even(Y)]),
    (even(Y), ("turn", "a", (), "back"), [even(X)]),
    (even(X), ("cases", X, (((), "g"), (("m",), "h"))),
     [(behind(fact("g", same(X, ZERO))), even(X)), (behind(thing("m", "nat"), fact("h", same(X, suc(free("m"))))), even(X))]),
    (even(X), ("induct", "x", (((), ()), (("m",), ("h",)))),
     [even(ZERO), (behind(thing("m", "nat"), fact("h", even(free("m")))), even(suc(free("m"))))]),
    (NEAR, ("sure", RAIN, "g", "h"), [(behind(fact("g", RAIN)), NEAR), (behind(fact("h", no(RAIN))), NEAR)]),
    (("and", RAIN, even(X)), ("then", ("both",), ("try", ("by", "b"))), [RAIN]),
    (even(X), ("first", (("done",), ("by", "b"))), []),
    (even(X), ("try", ("done",)), [even(X)]),
    (("and", ("and", RAIN, NEAR), even(X)), ("again", ("both",)), [RAIN, NEAR, even(X)]),
    (even(X), ("done",), None),
    (("or", RAIN, no(RAIN)), ("settle",), None),
]


def goals_of(come):
    return [one if len(one) == 2 and isinstance(one[0], tuple) else (CONTEXT, one) for one in come]


class TestBeginning(WorkCase):

    def test_one_goal_and_a_hole(self):
        for A in (EVENS, RAIN, FALSE, ("all", "nat", ADDED), ("some", "item", atom("near", bound(0), bound(0)))):
            for lore in (LORE, Book(BOOK_ROWS)):
                work = Work(lore, A)
                self.assertEqual(work.goals(), [((), A)])
                self.assertEqual(work.reason(), ("hole", 0))
                self.is_sound(work, A, lore)

    def test_what_is_none_is_refused(self):
        for A in odd_things() + [even(X), even(bound(0)), ("all", "nat", even(bound(1))), ("all", "none", RAIN), even(I), atom("nope"),
                                 same(ZERO, form("Nil")), same(ZERO, free("x")), X, ZERO, ("all", "nat", even(free("x"))), ("and", RAIN)]:
            if A != FALSE:
                error = raised(NoTerm, Work, LORE, A)
                self.assertIsNotNone(error, A)
        self.assertEqual(Work(LORE, FALSE).goals(), [((), FALSE)])


class TestDo(WorkCase):

    def test_each_tactic_at_the_first_goal(self):
        for G, tactic, come in DEEDS:
            # A second goal stands behind, and stays there.
            A = stated(CONTEXT, ("and", G, even(suc(X))))
            work = work_at(("and", G, even(suc(X))))
            work.do(("both",))
            if come is None:
                self.fails(work, tactic)
                continue
            wanted = goals_of(come) + [(CONTEXT, even(suc(X)))]
            self.assertEqual(work.do(tactic), wanted, tactic)
            self.assertEqual(work.goals(), wanted)
            self.is_sound(work, A)

    def test_settle(self):
        rows = plaingoals.ROWS
        lore = Lore(rows)
        A = ("all", "item", ("all", "item", ("and", ("if", same(bound(0), bound(1)), same(bound(1), bound(0))), same(bound(0), bound(1)))))
        work = Work(lore, A)
        self.fails(work, ("settle",))
        for tactic in (("into", "x"), ("into", "y"), ("both",)):
            work.do(tactic)
        self.fails(work, ("settle", 1))
        self.assertEqual(work.do(("settle",)), [(plaingoals.THINGS[:2], same(free("y"), free("x")))])
        self.is_sound(work, A, lore)
        self.fails(work, ("settle",))

    def test_to_the_end(self):
        A = ("all", "nat", ADDED)
        work = Work(LORE, A)
        row = [("into", "n"), ("induct", "n", (((), ()), (("m",), ("h",)))), ("plain",), ("reckon",), ("turn", "h", (), "on"), ("plain",)]
        many = [len(work.do(tactic)) for tactic in row]
        self.assertEqual(many, [1, 2, 1, 1, 1, 0])
        self.is_sound(work, A)
        self.assertEqual(looked(LORE, (), work.reason()), A)
        Book(BOOK_ROWS + [("reasoned", "zeros", A, work.reason())])

    def test_where_no_goal_is_left(self):
        work = Work(LORE, same(ZERO, ZERO))
        self.assertEqual(work.do(("plain",)), [])
        self.fails(work, ("plain",), ("try", ("plain",)), ("again", ("done",)), ("done",), ("first", ()), None, "x", ("settle",))

    def test_anything_as_a_tactic(self):
        work = work_at(("and", RAIN, even(X)))
        for tactic in odd_things() + [("both", 1), ["both"], ("then", ("both",)), ("first", [("both",)]), ("into", 3), ("nope",)]:
            self.fails(work, tactic)
        self.assertEqual(work.goals(), [(CONTEXT, ("and", RAIN, even(X)))])

    def test_other_goals_come_ahead_of_the_rest(self):
        A = ("and", ("and", RAIN, ("and", EVENS, RAIN)), ("or", RAIN, FALSE))
        work = Work(LORE, A)
        self.assertEqual([one[1] for one in work.do(("both",))], [A[1], A[2]])
        self.assertEqual([one[1] for one in work.do(("both",))], [RAIN, ("and", EVENS, RAIN), A[2]])
        self.assertEqual([one[1] for one in work.do(("by", "rains"))], [("and", EVENS, RAIN), A[2]])
        self.assertEqual([one[1] for one in work.do(("both",))], [EVENS, RAIN, A[2]])
        self.assertEqual(work.reason(), ("both", ("both", ("fact", "rains"), ("both", ("hole", 0), ("hole", 1))), ("hole", 2)))


class TestBack(WorkCase):

    def test_one_by_one_down_to_the_beginning(self):
        A = ("and", ("if", RAIN, RAIN), EVENS)
        work = Work(LORE, A)
        stands = [(work.goals(), work.reason())]
        for tactic in (("both",), ("into", "h"), ("try", ("done",)), ("by", "h"), ("again", ("done",)), ("by", "evens")):
            work.do(tactic)
            stands.append((work.goals(), work.reason()))
        self.assertEqual(stands[2], stands[3])
        self.assertEqual(stands[4], stands[5])
        for goals, p in stands[-2::-1]:
            self.assertEqual(work.back(), goals)
            self.assertEqual((work.goals(), work.reason()), (goals, p))
        for turn in range(2):
            self.assertIsNone(self.refuses(NoTactic, work, work.back).place)
        self.assertEqual(len(work.do(("both",))), 2)

    def test_do_again_behind_back(self):
        work = Work(LORE, ("or", RAIN, EVENS))
        self.assertEqual(work.do(("right",)), [((), EVENS)])
        self.assertEqual(work.back(), [((), ("or", RAIN, EVENS))])
        self.assertEqual(work.do(("left",)), [((), RAIN)])
        self.assertEqual(work.reason(), ("left", ("hole", 0), EVENS))
        self.assertEqual(work.back(), [((), ("or", RAIN, EVENS))])
        self.refuses(NoTactic, work, work.back)

    def test_what_failed_is_no_deed(self):
        work = Work(LORE, ("or", RAIN, EVENS))
        work.do(("left",))
        self.fails(work, ("left",), ("nope",))
        self.fills_none(work, 0, ("fact", "nope"), ())
        self.assertEqual(work.back(), [((), ("or", RAIN, EVENS))])
        self.refuses(NoTactic, work, work.back)


class TestFill(WorkCase):

    def setUp(self):
        self.A = ("and", ("if", RAIN, RAIN), ("and", EVENS, ("or", RAIN, FALSE)))
        self.reasons = [("into", "h", RAIN, ("fact", "h")), ("fact", "evens"), ("fact", "either")]
        self.work = Work(LORE, self.A)
        self.work.do(("again", ("both",)))
        self.assertEqual(len(self.work.goals()), 3)

    def test_at_each_goal(self):
        for n in range(3):
            goals, p = self.work.goals(), self.work.reason()
            self.assertEqual(self.work.fill(n, self.reasons[n]), goals[:n] + goals[n + 1:])
            self.assertEqual(self.work.goals(), goals[:n] + goals[n + 1:])
            self.is_sound(self.work, self.A)
            self.assertEqual(self.work.back(), goals)
            self.assertEqual(self.work.reason(), p)

    def test_all_of_them(self):
        for n in (1, 1, 0):
            self.work.fill(n, self.reasons.pop(n))
            self.is_sound(self.work, self.A)
        self.assertEqual(self.work.goals(), [])
        self.assertEqual(looked(LORE, (), self.work.reason()), self.A)
        self.fills_none(self.work, 0, ("fact", "evens"), None)
        self.fails(self.work, ("both",))
        for many in (1, 2, 3):
            self.assertEqual(len(self.work.back()), many)

    def test_what_is_refused(self):
        self.fills_none(self.work, 0, ("fact", "evens"), ())
        self.fills_none(self.work, 0, ("fact", "nope"), ())
        self.fills_none(self.work, 0, ("into", "h", RAIN, ("fact", "nope")), (0,))
        self.fills_none(self.work, 0, ("into", "h", EVENS, ("fact", "h")), ())
        self.fills_none(self.work, 2, ("give", ("into", "h", RAIN, ("hole", 0)), ("fact", "rains")), (0, 0))
        for p in odd_things():
            self.fills_none(self.work, 1, p, ())

    def test_where_there_is_no_such_goal(self):
        for n in (3, 4, 100, -1, -3):
            self.fills_none(self.work, n, self.reasons[0], None)
            self.fills_none(self.work, n, None, None)

    def test_a_hole_is_none(self):
        self.fills_none(self.work, 0, ("hole", 0), ())
        self.fills_none(self.work, 1, ("hole", 1), ())
        self.fills_none(self.work, 2, ("left", ("hole", 0), FALSE), (0,))

    def test_in_the_goals_own_context(self):
        work = work_at(("and", even(X), NEAR))
        work.do(("both",))
        self.assertEqual(work.fill(0, ("fact", "b")), [(CONTEXT, NEAR)])
        self.fills_none(work, 0, ("fact", "b"), ())
        self.fills_none(work, 0, ("fact", "o"), ())
        self.assertEqual(work.fill(0, ("never", ("fact", "f"), NEAR)), [])
        self.is_sound(work, stated(CONTEXT, ("and", even(X), NEAR)))


def sized(many):
    """A term of kind nat without free, of so many nodes."""
    if many <= 2:
        return ZERO if many == 1 else suc(ZERO)
    half = (many - 1) // 2
    return call("add", sized(half), sized(many - 1 - half))


def used(h, sizes):
    """The reason of a use of the fact h with terms of these sizes."""
    p = ("fact", h)
    for size in sizes:
        p = ("at", p, sized(size))
    return p


class TestBounds(WorkCase):

    def deep(self, many):
        """A work at if rain rain whose hole stands beneath so many reasons, its goal being a small one."""
        work = Work(LORE, ("if", RAIN, RAIN))
        work.do(("into", "a"))
        names = [a + b for a in "mnopqrs" for b in "abcdefghijk"]
        while reason_depth(work.reason()) + 2 <= many:
            work.do(("then", ("back", "a"), ("into", names.pop())))
        if reason_depth(work.reason()) < many:
            work.do(("back", "a"))
        return work

    def test_a_reason_just_as_deep_as_may_be(self):
        work = self.deep(149)
        self.assertEqual(work.do(("back", "a"))[0][1], ("if", RAIN, RAIN))
        self.assertEqual(reason_depth(work.reason()), 150)
        self.is_sound(work, ("if", RAIN, RAIN))
        for tactic in (("into", "h"), ("back", "a"), ("have", "h", RAIN), ("try", ("into", "h")), ("reckon",)):
            self.fails(work, tactic)
        self.assertEqual(work.do(("try", ("done",))), work.goals())
        self.assertEqual(work.back()[0][1], ("if", RAIN, RAIN))
        # The same tactics go at the very goal by themselves.
        for tactic in (("into", "h"), ("back", "a"), ("have", "h", RAIN)):
            met(LORE, work.goals()[0], tactic)

    def test_a_filling_just_as_deep_as_may_be(self):
        work = self.deep(149)
        self.fills_none(work, 0, ("first", ("both", ("fact", "a"), ("fact", "a"))), None)
        self.assertEqual(work.fill(0, ("fact", "a")), [])
        work.back()
        self.assertEqual(work.fill(0, ("reckon", RAIN, ("fact", "a"))), [])
        self.assertEqual(reason_depth(work.reason()), 150)
        self.is_sound(work, ("if", RAIN, RAIN))

    def test_a_reason_of_just_as_many_nodes_as_may_be(self):
        told = RAIN
        for turn in range(5):
            told = ("all", "nat", told)
        lore = Lore(BOOK_ROWS + [("taken", "many", told)])
        A = ("and", RAIN, RAIN)
        for last, so in ((1996, True), (1997, False)):
            for filled in (False, True):
                work = Work(lore, A)
                work.do(("both",))
                work.do(("use", "many", tuple(sized(1999) for turn in range(5))))
                sizes = [1999] * 4 + [last]
                tactic = ("use", "many", tuple(sized(size) for size in sizes))
                self.assertEqual(met(lore, work.goals()[0], tactic), ([], used("many", sizes)))
                if so:
                    self.assertEqual(work.fill(0, used("many", sizes)) if filled else work.do(tactic), [])
                    self.assertEqual(reason_nodes(work.reason()), 20000)
                    self.assertEqual(looked(lore, (), work.reason()), A)
                elif filled:
                    self.fills_none(work, 0, used("many", sizes), None)
                else:
                    self.fails(work, tactic)


class TestOwn(WorkCase):

    def test_two_works_beside_one_another(self):
        A = ("and", RAIN, EVENS)
        one, other = Work(LORE, A), Work(LORE, A)
        one.do(("both",))
        self.assertEqual((other.goals(), other.reason()), ([((), A)], ("hole", 0)))
        other.do(("try", ("done",)))
        one.do(("by", "rains"))
        self.assertEqual(one.goals(), [((), EVENS)])
        self.assertEqual(other.goals(), [((), A)])
        self.assertEqual(other.back(), [((), A)])
        self.refuses(NoTactic, other, other.back)
        self.assertEqual(len(one.back()), 2)

    def test_lists_that_were_told_are_the_askers_own(self):
        work = Work(LORE, ("and", RAIN, EVENS))
        told = [work.goals(), work.do(("both",)), work.goals(), work.do(("try", ("done",))), work.back(), work.fill(1, ("fact", "evens"))]
        kept = [list(goals) for goals in told]
        for goals in told:
            goals.append(None)
        told[-1].clear()
        self.assertEqual(work.goals(), kept[-1])
        self.assertEqual(work.back(), kept[1])
        self.assertEqual(work.back(), kept[0])
        self.assertEqual(work.do(("both",)), kept[1])

    def test_rows_that_are_changed_later(self):
        rows = list(BOOK_ROWS)
        work = Work(Lore(rows), ("and", RAIN, EVENS))
        rows.clear()
        work.do(("both",))
        self.assertEqual(work.do(("by", "rains")), [((), EVENS)])


class TestMany(WorkCase):

    def test_deeds_by_chance(self):
        rng = random.Random(1601)
        seen = {"do": 0, "none": 0, "back": 0, "fill": 0, "met": 0}
        for turn in range(150):
            context, G = makingtactics.goal(rng, BOOK_ROWS)
            A = stated(context, G)
            work = work_at(G, context)
            stands = [(work.goals(), work.reason())]
            for time in range(12):
                goals, p = stands[-1]
                if rng.random() < 0.15 and len(stands) > 1:
                    stands.pop()
                    self.assertEqual(work.back(), stands[-1][0])
                    self.assertEqual(work.reason(), stands[-1][1])
                    seen["back"] += 1
                    continue
                if goals and rng.random() < 0.2:
                    n = rng.randrange(len(goals))
                    false = [entry[1] for entry in goals[n][0] if entry[2] == FALSE]
                    filling = ("never", ("fact", false[0]) if false else ("unlike", ("fact", "lie")), goals[n][1])
                    self.assertEqual(work.fill(n, filling), goals[:n] + goals[n + 1:])
                    seen["fill"] += 1
                else:
                    tactic = makingtactics.row(rng, BOOK_ROWS, goals[0] if goals else (CONTEXT, RAIN), rng.randrange(3))
                    if not goals or raised(NoTactic, met, LORE, goals[0], tactic):
                        self.fails(work, tactic)
                        seen["none"] += 1
                        continue
                    self.assertEqual(work.do(tactic), met(LORE, goals[0], tactic)[0] + goals[1:])
                    seen["do"] += 1
                stands.append((work.goals(), work.reason()))
                self.is_sound(work, A)
            seen["met"] += not work.goals()
        self.assertGreater(min(seen.values()), 20, seen)


if __name__ == "__main__":
    unittest.main()
