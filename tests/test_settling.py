"""Plain goals and settling (point 22), against a slow look over all signs of their sames and atoms."""

import random
import unittest

import plaingoals
import slowlook
from meeting import MeetCase
from plaingoals import ROWS, THINGS
from samples import FALSE, atom, bound, call, form, free, raised, same
from tacticwright.books import Book
from tacticwright.errors import NoTactic
from tacticwright.looker import looked
from tacticwright.lore import Lore
from tacticwright.reasons import facts_in, is_great_reason, reasons_of
from tacticwright.settling import is_plain, settled
from tacticwright.tactics import met
from tacticwright.termworlds import least_values
from tacticwright.worlds import checked, truth

LORE = Lore(ROWS)
X, Y, Z, P = free("x"), free("y"), free("z"), free("p")
RAIN = atom("rain")
NEAR = atom("near", X, Y)


def no(A):
    return ("if", A, FALSE)


def goal(G, *more):
    return (THINGS + more, G)


def chain(many, inmost, name="f"):
    for turn in range(many):
        inmost = call(name, inmost)
    return inmost


def joined(word, statements):
    """The statements joined by a word, each but the last at the left."""
    made = statements[-1]
    for A in reversed(statements[:-1]):
        made = (word, A, made)
    return made


SO = [
    ("if", FALSE, FALSE),
    same(X, X),
    ("or", RAIN, ("if", RAIN, FALSE)),
    ("if", RAIN, RAIN),
    ("if", same(X, Y), same(Y, X)),
    joined("if", [same(X, Y), same(Y, Z), same(X, Z)]),
    joined("if", [same(X, Y), same(Z, Y), same(chain(1, X), chain(1, Z))]),
    joined("if", [same(X, Y), NEAR, atom("near", Y, X)]),
    joined("if", [same(chain(3, X), X), same(chain(5, X), X), same(chain(1, X), X)]),
    joined("if", [same(X, Y), same(P, free("q")), same(call("many", X, P, Y, X), call("many", Y, free("q"), Y, Y))]),
    joined("if", [("and", same(X, Y), RAIN), ("and", RAIN, same(Y, X))]),
    joined("if", [("or", same(X, Y), same(Y, X)), same(call("at", X), call("at", Y))]),
    ("if", ("if", ("if", RAIN, NEAR), RAIN), RAIN),
    ("if", ("if", ("or", RAIN, ("if", RAIN, FALSE)), FALSE), NEAR),
    ("if", ("and", RAIN, ("if", RAIN, FALSE)), same(X, Y)),
    ("if", ("if", ("and", RAIN, NEAR), FALSE), ("or", ("if", RAIN, FALSE), ("if", NEAR, FALSE))),
    ("or", same(call("spot"), X), ("if", same(X, call("spot")), FALSE)),
]
WET, DRY = atom("wet"), atom("dry")
NONE = ("and", ("and", no(RAIN), no(WET)), ("and", no(DRY), no(same(X, Y))))
EITHER = ("or", ("or", ("or", ("or", ("or", ("or", same(X, Y), same(X, Y)), DRY), WET), RAIN), same(X, Y)), DRY)
# Facts put behind within others hide none of those that are still gone by.
SO += [("if", NONE, no(EITHER)), ("if", NONE, ("if", EITHER, RAIN)),
       ("if", NONE, no(("if", no(DRY), ("if", no(WET), ("if", no(RAIN), ("if", no(DRY), same(X, Y))))))),
       ("if", NONE, ("if", RAIN, ("if", WET, ("if", DRY, ("if", same(X, Y), FALSE)))))]
NOT_SO = [
    ("if", NEAR, atom("far", X, Y)),
    ("if", RAIN, ("if", DRY, WET)),
    FALSE,
    RAIN,
    same(X, Y),
    ("if", RAIN, NEAR),
    ("if", NEAR, atom("near", Y, X)),
    ("if", same(chain(1, X), chain(1, Y)), same(X, Y)),
    joined("if", [same(chain(2, X), X), same(chain(4, X), X), same(chain(1, X), X)]),
    ("or", same(X, Y), ("or", same(Y, Z), same(X, Z))),
    ("and", ("or", RAIN, ("if", RAIN, FALSE)), same(P, free("q"))),
    ("if", ("if", RAIN, FALSE), FALSE),
    joined("or", [same(chain(7, X), X), same(chain(6, X), chain(2, X)), same(chain(5, X), chain(3, X)), same(chain(1, X), X)]),
]


class TestPlain(unittest.TestCase):

    def is_so(self, G, context=THINGS, lore=LORE):
        return is_plain(lore, (context, G))

    def test_plain_goals(self):
        for G in SO + NOT_SO:
            self.assertIs(self.is_so(G), True, G)
        self.assertIs(is_plain(LORE, ((), RAIN)), True)
        self.assertIs(is_plain(Book(ROWS), (THINGS, RAIN)), True)

    def test_a_context_of_things_of_open_kinds_alone(self):
        self.assertIs(self.is_so(RAIN, THINGS + (("fact", "h", RAIN),)), False)
        self.assertIs(self.is_so(RAIN, THINGS + (("thing", "n", "nat"),)), False)
        self.assertIs(self.is_so(RAIN, THINGS + (("thing", "n", "place"),)), True)

    def test_no_all_and_no_some(self):
        for word in ("all", "some"):
            self.assertIs(self.is_so((word, "item", RAIN)), False)
            self.assertIs(self.is_so((word, "item", same(bound(0), X))), False)
            self.assertIs(self.is_so(("or", RAIN, ("if", (word, "item", RAIN), RAIN))), False)

    def test_given_functions_and_terms_of_open_kinds_alone(self):
        self.assertIs(self.is_so(same(call("ff", X), X)), False)
        self.assertIs(self.is_so(same(call("f", call("ff", X)), X)), False)
        self.assertIs(self.is_so(same(call("size", X), call("size", X))), False)
        self.assertIs(self.is_so(atom("even", call("size", X))), False)
        self.assertIs(self.is_so(same(form("Zero"), form("Zero"))), False)
        self.assertIs(self.is_so(atom("even", form("Zero"))), False)
        self.assertIs(self.is_so(same(call("box", form("Zero")), form("None"))), False)
        rows = ROWS + [("given", "of", ("nat",), "item")]
        self.assertIs(self.is_so(same(call("of", form("Zero")), X), lore=Lore(rows)), False)
        self.assertIs(self.is_so(same(call("of", call("size", X)), X), lore=Lore(rows)), False)

    def test_sixty_nodes(self):
        for many, wanted in ((58, True), (59, True), (60, True), (61, False), (62, False), (63, False)):
            # Each if adds two nodes, a call of f one.
            G = joined("if", [FALSE] * ((many - 3 + many % 2) // 2) + [same(X, Y)] if many % 2 else
                       [FALSE] * ((many - 4) // 2) + [same(chain(1, X), Y)])
            self.assertEqual(len(plaingoals.within(G)), many)
            self.assertIs(self.is_so(G), wanted, many)

    def test_four_unlike_sames_and_atoms(self):
        four = [same(X, Y), same(Y, X), NEAR, RAIN]
        self.assertIs(self.is_so(joined("and", four)), True)
        self.assertIs(self.is_so(joined("and", four + four + [FALSE] + four)), True)
        for more in (atom("near", Y, X), same(X, X), atom("here", P)):
            self.assertIs(self.is_so(joined("or", four + [more])), False)

    def test_eight_unlike_terms(self):
        self.assertIs(self.is_so(same(chain(7, X), X)), True)
        self.assertIs(self.is_so(same(chain(8, X), X)), False)
        self.assertIs(self.is_so(same(chain(6, X), Y)), True)
        self.assertIs(self.is_so(same(chain(7, X), Y)), False)
        self.assertIs(self.is_so(atom("near", chain(3, X), chain(3, Y))), True)
        self.assertIs(self.is_so(("and", RAIN, atom("near", chain(3, X), chain(4, Y)))), False)

    def test_what_is_no_goal(self):
        self.assertIs(self.is_so(same(X, P)), False)
        self.assertIs(self.is_so(same(free("w"), X)), False)
        self.assertIs(self.is_so(same(bound(0), bound(0))), False)
        self.assertIs(self.is_so(RAIN, THINGS + THINGS[:1]), False)

    def test_drawn_goals(self):
        rng = random.Random(2201)
        for turn in range(400):
            context, G = plaingoals.goal(rng)
            self.assertIs(self.is_so(G), plaingoals.is_small(G), G)


class TestSettled(unittest.TestCase):

    def has_reason(self, goal, lore=LORE):
        word, p = settled(lore, goal)
        self.assertEqual(word, "reason")
        context, G = goal
        more = (("thing", "w", "nat"), ("fact", "settleaa", FALSE), ("fact", "settleab", RAIN), ("fact", "h", NEAR))
        for behind in (), more[:1], more[1:3]:
            self.assertEqual(looked(lore, context + behind, p), G)
            self.assertEqual(slowlook.looked(lore.rows(), context + behind, p, None), G)
        for part in reasons_of(p):
            self.assertTrue(all(h.startswith("settle") for h in facts_in(part)), part)
        self.assertFalse(is_great_reason(p))

    def has_world(self, goal, lore=LORE):
        told = settled(lore, goal)
        self.assertEqual((told[0], len(told)), ("world", 3))
        word, world, env = told
        context, G = goal
        self.assertIsNone(checked(lore, world))
        self.assertEqual(sorted(env), sorted(entry[1] for entry in context))
        for entry in context:
            self.assertIn(env[entry[1]], range(world[0][entry[2]]))
        for depth in (0, 3):
            self.assertIs(truth(lore, world, depth, env, G), False, G)

    def test_goals_that_are_so(self):
        for G in SO:
            self.assertTrue(plaingoals.is_so(G), G)
            self.has_reason(goal(G))
            self.has_reason(goal(G), Book(ROWS))

    def test_goals_that_are_not_so(self):
        for G in NOT_SO:
            self.assertFalse(plaingoals.is_so(G), G)
            self.has_world(goal(G))
            self.has_world(goal(("and", G, RAIN)))

    def test_things_that_no_term_speaks_of(self):
        self.has_world(((), RAIN))
        self.has_world((THINGS[:1], ("if", RAIN, FALSE)))
        self.has_world(goal(same(P, free("q")), ("thing", "settleaa", "item"), ("thing", "last", "place")))
        self.has_reason((THINGS + (("thing", "settleaa", "item"),), same(free("settleaa"), free("settleaa"))))

    def test_things_called_like_functions_and_words(self):
        things = (("thing", "f", "item"), ("thing", "spot", "item"), ("thing", "rain", "item"))
        f, spot = free("f"), free("spot")
        self.has_world((things, same(f, call("f", f))))
        self.has_world((things, same(spot, call("spot"))))
        self.has_world((things, ("or", RAIN, same(free("rain"), call("spot")))))
        self.has_reason((things, ("if", same(f, spot), same(call("f", spot), call("f", f)))))

    def test_eight_unlike_values(self):
        G = joined("or", [same(chain(3, X), chain(2, X)), same(chain(3, X), chain(1, X)), same(chain(3, X), chain(3, Y)), same(X, Y)])
        self.has_world(goal(G))
        self.has_world(goal(("if", atom("near", chain(3, X), chain(3, Y)), atom("near", X, Y))))

    def test_taken_rows_are_not_asked(self):
        # rains is taken, but settling tells a reason from nothing, or a world, good or not.
        self.has_world(goal(RAIN))

    def test_values_of_made_kinds_in_a_world(self):
        rows = ROWS + [("kind", "pair", (("Pair", ("box", "item", "place")),)), ("given", "pairs", ("pair",), "pair"),
                       ("kind", "tree", (("Leaf", ("pair", "pair", "pair", "pair")), ("Twig", ("box",)), ("Fork", ("tree", "tree"))))]
        last = "tree"
        # The first forms alone would make a value far beyond the bounds of one.
        for letter in "abcdefg":
            rows.append(("kind", "kind" + letter, (("Leaf" + letter, (last,) * 4), ("Bud" + letter, (last,)))))
            rows.append(("given", "grow" + letter, ("kind" + letter,), "kind" + letter))
            last = "kind" + letter
        self.has_world(goal(("or", RAIN, same(X, Y))), Lore(rows))
        self.has_reason(goal(("if", RAIN, RAIN)), Lore(rows))

    def test_the_least_values(self):
        rows = [("open", "item"), ("kind", "nat", (("Zero", ()), ("Suc", ("nat",)))), ("kind", "box", (("Box", ("nat", "nat")), ("Item", ("item",)), ("In", ("box",)))),
                ("kind", "pair", (("Pair", ("box", "nat")),)), ("kind", "last", (("A", ("pair", "pair")), ("B", ("pair",)), ("C", ()), ("D", ("item",))))]
        self.assertEqual(least_values(Lore(rows)), {"item": 0, "nat": ("Zero", ()), "box": ("Item", (0,)), "pair": ("Pair", (("Item", (0,)), ("Zero", ()))), "last": ("C", ())})

    def test_just_one_of_both_for_drawn_goals(self):
        rng = random.Random(2202)
        seen = {"reason": 0, "world": 0}
        for turn in range(900):
            one = plaingoals.goal(rng)
            if not is_plain(LORE, one):
                continue
            if plaingoals.is_so(one[1]):
                seen["reason"] += 1
                self.has_reason(one)
            else:
                seen["world"] += 1
                self.has_world(one)
        self.assertGreater(min(seen.values()), 100)

    def test_the_greatest_goals(self):
        rng = random.Random(2203)
        seen = set()
        for turn in range(300):
            sayings = plaingoals.pooled(rng)
            G = plaingoals.join(rng, sayings, 6)
            while len(plaingoals.within(G)) > 60:
                G = G[1 + rng.randrange(2)]
            while len(plaingoals.within(G)) + 12 < 60:
                G = ("if", rng.choice(sayings), G) if rng.random() < 0.7 else ("or", G, FALSE)
            if plaingoals.is_small(G):
                word = settled(LORE, goal(G))[0]
                seen.add(word)
                self.assertEqual(word, "reason" if plaingoals.is_so(G) else "world")
                self.has_reason(goal(G)) if word == "reason" else self.has_world(goal(G))
        self.assertEqual(seen, {"reason", "world"})

    def test_what_is_told_is_the_askers_own(self):
        first, again = settled(LORE, goal(RAIN)), settled(LORE, goal(RAIN))
        word, (sizes, tables, truths), env = first
        sizes.clear(), tables["f"][0].clear(), tables.clear(), truths["rain"][0].clear(), truths.clear(), env.clear()
        self.assertEqual(settled(LORE, goal(RAIN)), again)
        self.assertNotEqual(first, again)


class TestSettle(MeetCase):

    def test_goals_that_are_so(self):
        for G in SO:
            come, p = self.asked(goal(G), ("settle",), LORE)
            self.assertEqual(come, [])
            self.assertEqual(p, settled(LORE, goal(G))[1])

    def test_it_fails(self):
        for G in NOT_SO:
            self.fails(G, ("settle",), context=THINGS, lore=LORE)
        self.fails(same(chain(8, X), chain(8, X)), ("settle",), context=THINGS, lore=LORE)
        self.fails(("all", "item", same(bound(0), bound(0))), ("settle",), context=THINGS, lore=LORE)
        self.fails(("if", RAIN, RAIN), ("settle",), context=THINGS + (("fact", "h", RAIN),), lore=LORE)
        self.fails(("if", RAIN, RAIN), ("settle", 1), ("settle", ()), ("settle", "x"), ["settle"], "settle", context=THINGS, lore=LORE)

    def test_within_rows_of_tactics(self):
        G = ("and", ("if", RAIN, RAIN), NEAR)
        one = (THINGS, NEAR)
        for tactic in (("then", ("both",), ("try", ("settle",))), ("then", ("both",), ("first", (("settle",), ("try", ("done",))))),
                       ("then", ("both",), ("again", ("settle",))), ("again", ("first", (("settle",), ("both",))))):
            self.assertEqual(self.asked((THINGS, G), tactic, LORE)[0], [one])
        self.fails(G, ("then", ("both",), ("settle",)), ("first", (("settle",),)), context=THINGS, lore=LORE)
        come, p = self.asked(((), ("all", "item", same(bound(0), bound(0)))), ("then", ("into", "x"), ("settle",)), LORE)
        self.assertEqual(come, [])

    def test_no_new_name_begins_with_settle(self):
        for name in ("settle", "settlea", "settleaa", "settlers"[:8]):
            self.fails(("if", RAIN, RAIN), ("into", name), context=THINGS, lore=LORE)
            self.assertIsNotNone(raised(NoTactic, met, LORE, (THINGS, RAIN), ("have", name, RAIN)))


if __name__ == "__main__":
    unittest.main()
