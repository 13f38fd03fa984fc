"""goals: what is a goal, of anything (points 14 and 16)."""

import unittest

from looksamples import BOOK_ROWS, CONTEXT, EVENS, RAIN, X, Y, even
from samples import FALSE, ZERO, bound, call, free, nested, odd_things, same, suc
from tacticwright.goals import is_goal
from tacticwright.lore import Lore

LORE = Lore(BOOK_ROWS)
THING, FACT = ("thing", "x", "nat"), ("fact", "h", even(X))


class TestGoals(unittest.TestCase):

    def right(self, goal):
        self.assertIs(is_goal(LORE, goal), True, goal)

    def wrong(self, goal):
        self.assertIs(is_goal(LORE, goal), False, repr(goal))

    def test_right_ones(self):
        self.right(((), RAIN))
        self.right(((), EVENS))
        self.right(((THING,), even(X)))
        self.right(((THING, FACT), even(suc(X))))
        self.right((CONTEXT, ("if", even(X), ("some", "item", same(bound(0), free("i"))))))
        self.right(((FACT[:2] + (RAIN,), THING, ("thing", "y", "list"), ("fact", "g", same(X, call("len", Y)))), FALSE))

    def test_names_that_begin_with_settle(self):
        self.right(((("fact", "settlea", RAIN), ("thing", "settleb", "nat")), RAIN))

    def test_the_same_name_twice(self):
        self.wrong(((THING, THING), RAIN))
        self.wrong(((THING, ("thing", "x", "item")), RAIN))
        self.wrong(((THING, FACT, FACT), RAIN))
        self.wrong(((THING, FACT, ("fact", "h", RAIN)), RAIN))
        self.wrong(((THING, ("fact", "x", RAIN)), RAIN))
        self.wrong(((("fact", "x", RAIN), THING), RAIN))

    def test_names_of_the_books_facts(self):
        self.wrong(((("fact", "rains", RAIN),), RAIN))
        self.wrong(((("thing", "rains", "nat"),), RAIN))
        self.right(((("thing", "nat", "nat"), ("fact", "even", RAIN), ("thing", "add", "item")), RAIN))

    def test_statements_that_are_not_right(self):
        for A in (even(free("y")), even(bound(0)), even(free("i")), ("all", "none", RAIN), ("atom", "none", ()), same(X, free("i")), X, ZERO):
            self.wrong(((THING, ("thing", "i", "item")), A))
            self.wrong(((THING, ("thing", "i", "item"), ("fact", "h", A)), RAIN))

    def test_facts_by_the_things_ahead_alone(self):
        self.wrong(((FACT, THING), RAIN))
        self.right(((THING, FACT), RAIN))

    def test_kinds_that_are_not_there(self):
        self.wrong(((("thing", "x", "none"),), RAIN))
        self.wrong(((("thing", "x", "Zero"),), RAIN))
        self.wrong(((("thing", "x", "add"),), RAIN))

    def test_names_that_are_none(self):
        for name in ("X", "", "all", "longernames", "x1", 3, None, True, ("x",)):
            self.wrong(((("thing", name, "nat"),), RAIN))
            self.wrong(((("fact", name, RAIN),), RAIN))

    def test_other_shapes(self):
        self.wrong(((), RAIN, RAIN))
        self.wrong((RAIN,))
        self.wrong([(), RAIN])
        self.wrong(([], RAIN))
        self.wrong(([THING], RAIN))
        self.wrong((([THING]), RAIN))
        self.wrong((THING, RAIN))
        self.wrong(((list(THING),), RAIN))
        self.wrong(((THING[:2],), RAIN))
        self.wrong(((THING + ("nat",),), RAIN))
        self.wrong(((("fact", "h"),), RAIN))
        self.wrong(((("none", "x", "nat"),), RAIN))
        self.wrong(((("none", "x", RAIN),), RAIN))
        self.wrong(((("thing", "x", RAIN),), RAIN))
        self.wrong(((("fact", "x", "nat"),), RAIN))

    def test_anything(self):
        for thing in odd_things():
            self.wrong(thing)
            self.wrong((thing, thing))
            self.wrong(((thing,), RAIN))
            self.wrong(((THING, thing), RAIN))
            if thing != ():
                self.wrong((thing, RAIN))
            if thing != FALSE:
                self.wrong(((), thing))
                self.wrong(((("fact", "h", thing),), RAIN))
            self.wrong(((("thing", "x", thing),), RAIN))
            if thing != "x":
                self.wrong(((("thing", thing, "nat"),), RAIN))
            self.wrong((((thing, "x", "nat"),), RAIN))

    def test_nothing_is_refused_for_its_size(self):
        deep = RAIN
        for turn in range(500):
            deep = ("if", RAIN, deep)
        self.right(((("fact", "h", deep),), deep))


if __name__ == "__main__":
    unittest.main()
