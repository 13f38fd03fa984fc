"""worlds: values and terms, truth to a depth, good worlds and refuting ones (points 10 to 13, 3 b and 3 d)."""

import copy
import itertools
import random
import unittest

import making
import slow
from samples import (ADD, FALSE, LIST, NAT, NIL, PAIR, ROWS, TWICE, ZERO, atom, bound, call, form, free, number, number_value,
                     odd_things, raised, same, suc)
from tacticwright.errors import NoWorld, TacticError, TooGreat, TooLong
from tacticwright.lore import Lore
from tacticwright.reckoning import reckoned
from tacticwright.worlds import checked, good, refutes, truth, value, values

LORE = Lore(ROWS)
TRUE = ("if", FALSE, FALSE)
Z, ONE, TWO = number_value(0), number_value(1), number_value(2)
NONE = ("Nil", ())


def cons(item, rest):
    return ("Cons", (item, rest))


WORLD = (
    {"item": 3},
    {"pick": ({(0, Z): 2, (1, ONE): 0}, 1), "spot": ({}, 2), "size": ({(0,): ONE, (2,): TWO}, Z)},
    {"even": ({(Z,): True, (TWO,): True}, False), "near": ({(0, 1): False}, True), "rain": ({(): True}, False)},
)


def changed(*path_and_thing):
    """WORLD with another thing at a path: keys of dicts, numbers of tuples."""
    *path, thing = path_and_thing

    def put(old, rest):
        if not rest:
            return thing
        if isinstance(old, dict):
            made = dict(old)
            made[rest[0]] = put(old.get(rest[0]), rest[1:])
            return made
        return old[:rest[0]] + (put(old[rest[0]], rest[1:]),) + old[rest[0] + 1:]
    return put(WORLD, path)


def without(part, name):
    made = dict(WORLD[part])
    del made[name]
    return WORLD[:part] + (made,) + WORLD[part + 1:]


TREE = ("kind", "tree", (("Leaf", ()), ("Wrap", ("tree",)), ("Node", ("tree", "tree")), ("Dot", ("item",))))


def tree_value(many):
    """A value of the kind tree that has so many values, as flat as may be."""
    if many <= 2:
        return ("Leaf", ()) if many == 1 else ("Wrap", (("Leaf", ()),))
    half = (many - 1) // 2
    return ("Node", (tree_value(half), tree_value(many - 1 - half)))


def tree_term(made):
    """The term of such a value."""
    return ("form", made[0], tuple(tree_term(part) for part in made[1]))


class TestChecked(unittest.TestCase):

    def taken(self, world, lore=LORE):
        before = copy.deepcopy(world)
        self.assertIsNone(checked(lore, world))
        self.assertEqual(world, before)

    def refused(self, world, lore=LORE):
        error = raised(NoWorld, checked, lore, world)
        self.assertIsNotNone(error)
        self.assertIsNone(error.place)

    def test_right_worlds(self):
        self.taken(WORLD)
        self.taken(({}, {}, {}), Lore([]))
        self.taken(({}, {}, {}), Lore([NAT, ADD]))
        for size in range(1, 13):
            self.taken(({"item": size}, {}, {}), Lore([("open", "item")]))
        self.taken(({"a": 1, "b": 12}, {}, {}), Lore([("open", "b"), ("open", "a")]))

    def test_what_is_no_world(self):
        for thing in odd_things() + [list(WORLD), WORLD[:2], WORLD + ({},), (WORLD,), [{}, {}, {}]]:
            self.refused(thing)
        for part in range(3):
            for thing in odd_things():
                self.refused(WORLD[:part] + (thing,) + WORLD[part + 1:])
            self.refused(WORLD[:part] + (list(WORLD[part].items()),) + WORLD[part + 1:])

    def test_just_the_names(self):
        for part in range(3):
            for name in WORLD[part]:
                self.refused(without(part, name))
            for name in ("new", "nat", "add", "twice", "len", "list", None, 1, ("item",), ()):
                self.refused(changed(part, name, list(WORLD[part].values())[0]))
                last = list(WORLD[part])[-1]
                swapped = without(part, last)[part]
                swapped[name] = WORLD[part][last]
                self.refused(WORLD[:part] + (swapped,) + WORLD[part + 1:])
        self.refused(({"nat": 3}, {}, {}), Lore([NAT]))

    def test_sizes(self):
        for size in [thing for thing in odd_things() if thing is not True and thing != 1] + [True, 0, 13, -1, 2.0, "3", (3,)]:
            self.refused(changed(0, "item", size))
            self.refused(({"item": size}, {}, {}), Lore([("open", "item")]))

    def test_tables_are_pairs_of_rows_and_rest(self):
        for part, name in ((1, "pick"), (1, "spot"), (2, "even"), (2, "rain")):
            rows, rest = WORLD[part][name]
            for thing in odd_things() + [[rows, rest], (rows,), (rows, rest, rest), rows, rest, (rest, rows), (list(rows.items()), rest),
                                         (None, rest), ((), rest)]:
                self.refused(changed(part, name, thing))

    def test_keys_are_tuples_of_values(self):
        for key in (None, 0, True, "x", (), (0,), (0, Z, Z), (Z, 0), (0, 0), (Z, Z), (3, Z), (-1, Z), (True, Z), (False, Z), (0, "Zero"),
                    (0, ("Zero",)), (0, ("Zero", (), ())), (0, ("Zero", (Z,))), (0, ("Suc", ())), (0, ("Suc", (0,))), (0, NONE),
                    (0, ("None", ())), (0, ("Suc", (Z, Z))), (0, ("Suc", Z)), (0, ("zero", ())), (0.0, Z), (0, ((), ())), ((0, Z),)):
            self.refused(changed(1, "pick", 0, {key: 1}))
            self.refused(changed(1, "pick", 0, {(2, Z): 1, key: 1}))
        for key in ((3,), (True,), (), (0, 0), 0):
            self.refused(changed(1, "size", 0, {key: Z}))
        self.taken(changed(2, "near", 0, {(0, 0): True}))
        for key in ((0, 3), (0,), (0, True), (False, 1), ((0, 1),)):
            self.refused(changed(2, "near", 0, {key: True}))
        self.refused(changed(2, "rain", 0, {(0,): True}))
        self.refused(changed(2, "rain", 0, {None: True}))

    def test_what_a_table_tells(self):
        for told in [thing for thing in odd_things() if thing not in (0, 1)] + [3, -1, True, False, 0.0, Z, (1,), "1"]:
            self.refused(changed(1, "pick", 0, (0, Z), told))
            self.refused(changed(1, "pick", 1, told))
        for told in odd_things() + [0, 1, ("Zero", []), ["Zero", ()], ("Suc", (0,)), ("Suc", [Z]), NONE, ("Suc", (("Suc", ()),))]:
            self.refused(changed(1, "size", 0, (1,), told))
            self.refused(changed(1, "size", 1, told))
        for told in [thing for thing in odd_things() if not isinstance(thing, bool)] + [0, 1, "True", (True,)]:
            self.refused(changed(2, "even", 0, (ONE,), told))
            self.refused(changed(2, "even", 1, told))

    def test_values_of_many_forms(self):
        rows = [NAT, ("open", "item"), LIST, PAIR, ("given", "f", ("list", "pair"), "list")]
        lore = Lore(rows)
        right = [NONE, cons(0, NONE), cons(1, cons(0, NONE))]
        pair = ("Pair", (1, ONE))
        for told in right:
            self.taken(({"item": 2}, {"f": ({(told, pair): told}, told)}, {}), lore)
        for told in (cons(2, NONE), cons(0, 0), cons(NONE, 0), ("Cons", (0,)), ("Cons", (0, NONE, NONE)), pair, Z, 0):
            self.refused(({"item": 2}, {"f": ({(NONE, pair): told}, NONE)}, {}), lore)
            self.refused(({"item": 2}, {"f": ({(told, pair): NONE}, NONE)}, {}), lore)
            self.refused(({"item": 2}, {"f": ({}, told)}, {}), lore)
        self.refused(({"item": 2}, {"f": ({}, ("Cons", [0, NONE]))}, {}), lore)

    def test_values_no_deeper_and_no_greater(self):
        lore = Lore([NAT, ("open", "item"), LIST, TREE, ("given", "f", ("tree",), "tree"), ("given", "g", (), "nat"),
                     ("given", "k", (), "list")])

        def world(key, tree, nat, items):
            return ({"item": 1}, {"f": ({(key,): tree}, ("Leaf", ())), "g": ({}, nat), "k": ({}, items)}, {})
        leaf = ("Leaf", ())
        self.assertEqual(slow.value_depth(number_value(59)), 60)
        self.taken(world(leaf, leaf, number_value(59), NONE), lore)
        self.refused(world(leaf, leaf, number_value(60), NONE), lore)
        self.refused(world(leaf, leaf, number_value(4000), NONE), lore)
        row = NONE
        for turn in range(59):
            row = cons(0, row)
        self.taken(world(leaf, leaf, Z, row), lore)
        self.refused(world(leaf, leaf, Z, cons(0, row)), lore)
        self.assertEqual([slow.value_size(tree_value(2000)), slow.value_size(tree_value(2001))], [2000, 2001])
        self.taken(world(leaf, tree_value(2000), Z, NONE), lore)
        self.refused(world(leaf, tree_value(2001), Z, NONE), lore)
        self.taken(world(tree_value(2000), leaf, Z, NONE), lore)
        self.refused(world(tree_value(2001), leaf, Z, NONE), lore)
        endless = leaf
        for turn in range(50):
            endless = ("Node", (endless, endless))
        self.refused(world(leaf, endless, Z, NONE), lore)


class TestValues(unittest.TestCase):

    def test_open_kinds(self):
        for size in (1, 3, 12):
            for depth in range(7):
                self.assertEqual(values(Lore([("open", "item")]), ({"item": size}, {}, {}), "item", depth), (list(range(size)), True))

    def test_numbers(self):
        for depth in range(7):
            self.assertEqual(values(LORE, WORLD, "nat", depth), ([number_value(k) for k in range(depth)], False))

    def test_lists(self):
        told, are_all = values(LORE, WORLD, "list", 2)
        self.assertEqual((told, are_all), ([NONE, cons(0, NONE), cons(1, NONE), cons(2, NONE)], False))
        told, are_all = values(LORE, WORLD, "list", 3)
        self.assertEqual(told[4:7], [cons(0, cons(0, NONE)), cons(0, cons(1, NONE)), cons(0, cons(2, NONE))])
        self.assertEqual(len(told), 13)

    def test_the_first_part_changes_last(self):
        rows = [("open", "a"), ("open", "b"), ("kind", "k", (("One", ("a", "b")), ("Two", ("b",)), ("Three", ())))]
        world = ({"a": 2, "b": 2}, {}, {})
        wanted = [("One", (0, 0)), ("One", (0, 1)), ("One", (1, 0)), ("One", (1, 1)), ("Two", (0,)), ("Two", (1,)), ("Three", ())]
        self.assertEqual(values(Lore(rows), world, "k", 0), ([], False))
        for depth in range(1, 7):
            self.assertEqual(values(Lore(rows), world, "k", depth), (wanted, True))

    def test_just_this_depth_comes_behind(self):
        rows = [("kind", "tree", (("Leaf", ()), ("Node", ("tree", "tree"))))]
        lore, world = Lore(rows), ({}, {}, {})
        leaf = ("Leaf", ())
        two = ("Node", (leaf, leaf))
        self.assertEqual(values(lore, world, "tree", 2)[0], [leaf, two])
        self.assertEqual(values(lore, world, "tree", 3)[0], [leaf, two, ("Node", (leaf, two)), ("Node", (two, leaf)), ("Node", (two, two))])

    def test_whether_they_are_all(self):
        rows = [("open", "o"), ("kind", "bit", (("No", ()), ("Yes", ()))), ("kind", "duo", (("Duo", ("bit", "bit")),)),
                ("kind", "big", (("Big", ("duo", "o")), ("Small", ()))), NAT, ("kind", "far", (("Near", ()), ("Far", ("nat",))))]
        lore = Lore(rows)
        world = ({"o": 3}, {}, {})
        for kind, many, least in (("bit", 2, 1), ("duo", 4, 2), ("big", 13, 3)):
            for depth in range(7):
                told, are_all = values(lore, world, kind, depth)
                self.assertIs(are_all, depth >= least, (kind, depth))
                self.assertEqual(len(told) == many, are_all)
        for kind in ("nat", "far"):
            for depth in range(7):
                self.assertIs(values(lore, world, kind, depth)[1], False)

    def test_the_first_three_hundred(self):
        for size, many in ((5, 300), (4, 256)):
            rows = [("open", "o"), ("kind", "k", (("Quad", ("o", "o", "o", "o")), ("Last", ())))]
            told, are_all = values(Lore(rows), ({"o": size}, {}, {}), "k", 3)
            wanted = [("Quad", parts) for parts in itertools.product(range(size), repeat=4)] + [("Last", ())]
            self.assertEqual(told, wanted[:300])
            self.assertIs(are_all, len(wanted) <= 300)
        rows = [("open", "o"), ("open", "p"), ("kind", "k", (("Duo", ("o", "o")), ("Trio", ("p", "o", "o"))))]
        for size, part in ((12, 1), (10, 2), (10, 3)):
            told, are_all = values(Lore(rows), ({"o": size, "p": part}, {}, {}), "k", 1)
            many = size * size * (part + 1)
            self.assertEqual((len(told), are_all), (min(300, many), many <= 300))
        self.assertEqual(values(Lore(rows), ({"o": 10, "p": 2}, {}, {}), "k", 1)[1], True)

    def test_three_hundred_and_what_comes_behind(self):
        rows = [("open", "o"), ("kind", "k", (("Duo", ("o", "o", "o")), ("End", ()), ("Ring", ("k",)))), ("kind", "m", (("Box", ("k", "k")),)),
                ("kind", "n", (("Out", ("m", "m", "m", "m")), ("Off", ("m",))))]
        world = ({"o": 7}, {}, {})
        lore = Lore(rows)
        for kind in ("k", "m", "n"):
            for depth in range(7):
                told, are_all = values(lore, world, kind, depth)
                self.assertIs(are_all, False)
                self.assertLessEqual(len(told), 300)
        self.assertEqual(values(lore, world, "k", 6)[0], slow.values(rows, world[0], "k", 6))
        self.assertEqual(len(values(lore, world, "m", 2)[0]), 300)

    def test_the_few_that_are_deep_enough_are_found_among_many(self):
        rows = [NAT, ("open", "o"), ("kind", "wide", (("Wide", ("o", "o", "o")), ("Tall", ("nat",)))),
                ("kind", "four", (("Four", ("wide", "wide", "wide", "nat")), ("Rest", ("nat",))))]
        world = ({"o": 6}, {}, {})
        lore = Lore(rows)
        for depth in (3, 4, 5):
            told = values(lore, world, "four", depth)[0]
            self.assertEqual(len(told), 300)
            self.assertEqual(len(set(told)), 300)
        first = values(lore, world, "four", 2)[0]
        self.assertEqual(first[0], ("Four", (("Wide", (0, 0, 0)),) * 3 + (Z,)))

    def test_many_beside_none(self):
        rows = [("open", "o"), ("kind", "wide", (("Wide", ("o", "o", "o")),)), ("kind", "one", (("One", ()),)), ("kind", "two", (("Two", ("one",)),)),
                ("kind", "far", (("Far", ("two",)),)), ("kind", "four", (("Four", ("wide", "wide", "wide", "far")), ("Five", ("one",))))]
        world = ({"o": 7}, {}, {})
        five = ("Five", (("One", ()),))
        for depth in (2, 3):
            self.assertEqual(values(Lore(rows), world, "four", depth), ([five], False))
        self.assertEqual(len(values(Lore(rows), world, "four", 4)[0]), 300)

    def test_by_plain_recursion(self):
        rows = [("open", "o"), ("kind", "bit", (("No", ()), ("Yes", ()))), NAT, ("kind", "mix", (("Nix", ("bit",)), ("Mix", ("mix", "nat", "o")))),
                ("kind", "tree", (("Leaf", ("o",)), ("Node", ("tree", "tree")))), ("kind", "top", (("Top", ("mix", "bit")), ("Bot", ("tree",))))]
        lore = Lore(rows)
        for size in (1, 2):
            for kind in ("o", "bit", "nat", "mix", "tree", "top"):
                for depth in range(5):
                    told = values(lore, ({"o": size}, {}, {}), kind, depth)[0]
                    self.assertEqual(told, slow.values(rows, {"o": size}, kind, depth), (kind, depth, size))

    def test_kinds_without_end_of_counting(self):
        rows = [("kind", "kaa", (("Kaa", ()), ("Kab", ())))]
        for at in range(1, 40):
            name = "k" + chr(97 + at // 26) + chr(97 + at % 26)
            last = rows[-1][1]
            rows.append(("kind", name, tuple((name.title() + sign, (last,) * 4) for sign in "abcd")))
        told, are_all = values(Lore(rows), ({}, {}, {}), rows[-1][1], 6)
        self.assertEqual((told, are_all), ([], False))
        self.assertIs(values(Lore(rows), ({}, {}, {}), "kab", 2)[1], True)
        self.assertIs(values(Lore(rows), ({}, {}, {}), "kac", 3)[1], False)

    def test_the_list_is_the_askers_own(self):
        told = values(LORE, WORLD, "nat", 3)[0]
        told.append(None)
        self.assertEqual(len(values(LORE, WORLD, "nat", 3)[0]), 3)

    def test_each_list_begins_as_the_one_to_a_depth_less(self):
        for kind in ("nat", "item", "list", "pair"):
            for depth in range(6):
                less = values(LORE, WORLD, kind, depth)[0]
                self.assertEqual(values(LORE, WORLD, kind, depth + 1)[0][:len(less)], less)


CHAIN = [NAT] + [
    ("rule", "go" + chr(97 + at // 26) + chr(97 + at % 26), ("nat", "nat"), "nat",
     (bound(0) if at == 0 else call("go" + chr(97 + (at - 1) // 26) + chr(97 + (at - 1) % 26), bound(0), bound(0)),
      call("go" + chr(97 + at // 26) + chr(97 + at % 26), bound(0), bound(1))))
    for at in range(38)
]
IDLE = ("rule", "idle", ("nat", "nat"), "nat", (bound(0), call("idle", bound(0), call("idle", bound(0), bound(1)))))


class TestValue(unittest.TestCase):

    def of(self, t, env=None, lore=LORE, world=WORLD):
        return value(lore, world, env or {}, t)

    def test_frees_and_forms(self):
        env = {"n": ONE, "i": 2}
        self.assertEqual(self.of(free("n"), env), ONE)
        self.assertEqual(self.of(free("i"), env), 2)
        self.assertEqual(self.of(ZERO), Z)
        self.assertEqual(self.of(number(5)), number_value(5))
        self.assertEqual(self.of(form("Cons", free("i"), form("Cons", free("i"), NIL)), env), cons(2, cons(2, NONE)))
        self.assertEqual(self.of(form("Pair", free("i"), suc(free("n"))), env), ("Pair", (2, TWO)))

    def test_given_functions_by_their_tables(self):
        for i in range(3):
            for k in range(3):
                wanted = {(0, 0): 2, (1, 1): 0}.get((i, k), 1)
                self.assertEqual(self.of(call("pick", free("i"), number(k)), {"i": i}), wanted)
            self.assertEqual(self.of(call("size", free("i")), {"i": i}), [ONE, Z, TWO][i])
        self.assertEqual(self.of(call("spot")), 2)
        self.assertEqual(self.of(call("size", call("spot"))), TWO)
        self.assertEqual(value(LORE, changed(1, "spot", ({(): 0}, 1)), {}, call("spot")), 0)

    def test_short_and_rule_functions_by_their_rows(self):
        for j in range(4):
            for k in range(4):
                self.assertEqual(self.of(call("add", number(j), number(k))), number_value(j + k))
            self.assertEqual(self.of(call("twice", free("n")), {"n": number_value(j)}), number_value(2 * j))
        row = form("Cons", call("spot"), form("Cons", free("i"), NIL))
        self.assertEqual(self.of(call("len", row), {"i": 0}), TWO)
        self.assertEqual(self.of(call("first", row, free("i")), {"i": 0}), 2)
        self.assertEqual(self.of(call("first", NIL, free("i")), {"i": 0}), 0)
        self.assertEqual(self.of(call("add", call("size", free("i")), call("len", free("l"))), {"i": 2, "l": cons(0, NONE)}), number_value(3))

    def test_over_many(self):
        rng = random.Random(11)
        for turn in range(400):
            world = making.world(rng, ROWS)
            checked(LORE, world)
            env = {"n": number_value(rng.randrange(3)), "i": rng.randrange(world[0]["item"]), "l": cons(0, NONE)}
            t = making.term(rng, ROWS, {"n": "nat", "i": "item", "l": "list"}, [], rng.choice(["nat", "item", "list", "pair"]), 4)
            self.assertEqual(value(LORE, world, env, t), slow.value(ROWS, world, env, (), t))

    def test_calls_as_many_as_may_be(self):
        lore, world = Lore([NAT, IDLE]), ({}, {}, {})
        # A call of idle by the number k goes into 2 ** (k + 1) - 1 calls: these are 1023 + 3 * 255 + 2 * 63 + 63 + 15 + 7 + 1.
        t = suc(ZERO)
        for k in (9, 7, 7, 7, 5, 5, 5, 3, 2, 0):
            t = call("idle", number(k), t)
        self.assertEqual(sum(2 ** (k + 1) - 1 for k in (9, 7, 7, 7, 5, 5, 5, 3, 2, 0)), 2000)
        self.assertEqual(value(lore, world, {}, t), ONE)
        self.assertEqual(value(lore, world, {}, suc(t)), TWO)
        self.assertIsNotNone(raised(TooLong, value, lore, world, {}, call("idle", ZERO, t)))
        self.assertIsNotNone(raised(TooLong, value, lore, world, {}, suc(call("idle", ZERO, t))))
        self.assertIsNotNone(raised(TooLong, value, lore, world, {}, call("idle", number(12), ZERO)))

    def test_calls_one_within_another(self):
        lore, world = Lore(CHAIN), ({}, {}, {})
        # Each function but the first ends in a call of the one ahead, which goes into 57 calls by the number 56.
        for top, k, fits in ((0, 56, True), (34, 56, True), (35, 4, True), (35, 5, False), (37, 56, False)):
            t = call(CHAIN[1 + top][1], number(k), number(56))
            self.assertEqual(57 * top + k + 1 <= 2000, fits)
            if fits:
                self.assertEqual(value(lore, world, {}, t), number_value(56))
                self.assertIs(truth(lore, world, 0, {}, same(t, t)), True)
            else:
                self.assertIsNotNone(raised(TooLong, value, lore, world, {}, t))
                self.assertIsNotNone(raised(TooLong, truth, lore, world, 0, {}, same(t, t)))

    def test_given_calls_do_not_count(self):
        t = call("spot")
        for turn in range(3000):
            t = call("pick", t, ZERO)
        self.assertEqual(self.of(t), 1)

    def test_depth(self):
        self.assertEqual(self.of(number(59)), number_value(59))
        for t in (number(60), number(61), call("add", number(30), number(30)), suc(free("n")), free("m")):
            env = {"n": number_value(59), "m": number_value(60)}
            self.assertIsNotNone(raised(TooGreat, value, LORE, WORLD, env, t), t)
        self.assertEqual(self.of(call("add", number(30), number(29))), number_value(59))
        self.assertEqual(self.of(free("n"), {"n": number_value(59)}), number_value(59))
        t = NIL
        for turn in range(59):
            t = form("Cons", call("spot"), t)
        self.assertEqual(slow.value_depth(self.of(t)), 60)
        self.assertIsNotNone(raised(TooGreat, value, LORE, WORLD, {}, form("Cons", call("spot"), t)))

    def test_size(self):
        lore = Lore([("open", "item"), TREE, ("short", "dup", ("tree",), "tree", form("Node", bound(0), bound(0)))])
        world = ({"item": 1}, {}, {})
        half, other = tree_term(tree_value(999)), tree_term(tree_value(1000))
        for t in (tree_term(tree_value(2000)), form("Wrap", call("dup", half)), form("Node", half, other),
                  form("Node", form("Dot", free("i")), tree_term(tree_value(1997)))):
            self.assertEqual(slow.value_size(value(lore, world, {"i": 0}, t)), 2000)
        for t in (tree_term(tree_value(2001)), form("Wrap", form("Wrap", call("dup", half))), form("Node", other, other),
                  call("dup", other), form("Node", form("Dot", free("i")), tree_term(tree_value(1998)))):
            self.assertIsNotNone(raised(TooGreat, value, lore, world, {"i": 0}, t))
        self.assertEqual(value(lore, world, {"t": tree_value(2000)}, free("t")), tree_value(2000))
        # Here the one value of an open kind stands beneath sixty others, and is the last one that counts.
        chain = form("Dot", free("i"))
        for turn in range(58):
            chain = form("Wrap", chain)
        made = value(lore, world, {"i": 0}, form("Node", chain, tree_term(tree_value(1939))))
        self.assertEqual((slow.value_depth(made), slow.value_size(made)), (60, 2000))
        self.assertIsNotNone(raised(TooGreat, value, lore, world, {"i": 0}, form("Node", chain, tree_term(tree_value(1940)))))
        self.assertIsNotNone(raised(TooGreat, value, lore, world, {"t": tree_value(2000)}, form("Wrap", free("t"))))

    def test_which_refusal_comes_first(self):
        lore, world = Lore([NAT, IDLE, ADD, ("given", "g", ("nat", "nat"), "nat"), ("short", "low", ("nat",), "nat", ZERO)]), ({}, {"g": ({}, Z)}, {})
        long, great = call("idle", number(11), ZERO), number(60)
        for head in ("add", "g", "idle"):
            self.assertIsNotNone(raised(TooLong, value, lore, world, {}, call(head, long, great)))
            self.assertIsNotNone(raised(TooGreat, value, lore, world, {}, call(head, great, long)))
        self.assertIsNotNone(raised(TooGreat, value, lore, world, {}, call("low", great)))
        self.assertIsNotNone(raised(TooLong, value, lore, world, {}, call("low", long)))
        self.assertIsNotNone(raised(TooGreat, value, lore, world, {}, call("low", suc(number(59)))))
        self.assertEqual(value(lore, world, {}, call("low", number(59))), Z)

    def test_what_is_handed_in_stays(self):
        world, env = copy.deepcopy(WORLD), {"n": ONE}
        value(LORE, world, env, call("pick", call("spot"), call("twice", free("n"))))
        self.assertEqual((world, env), (WORLD, {"n": ONE}))


LOOKS = Lore([("open", "dozen"), ("open", "one"), NAT])
LOOKS_WORLD = ({"dozen": 12, "one": 1}, {}, {})


def looks(A):
    """How many statements are looked at in A by that world."""
    if A[0] in ("all", "some"):
        return 1 + LOOKS_WORLD[0][A[1]] * looks(A[2])
    return 1 + sum(looks(part) for part in A[1:]) if A[0] in ("and", "or", "if") else 1


def looked_at(many):
    """A true statement in which just so many statements are looked at."""
    true = same(ZERO, ZERO)
    A = ("all", "dozen", ("all", "dozen", ("all", "dozen", ("and", true, ("and", true, ("or", true, ("if", FALSE, true)))))))
    for more in (("all", "dozen", ("all", "dozen", ("all", "dozen", true))), ("all", "dozen", true)):
        while looks(A) + 1 + looks(more) <= many - 20:
            A = ("and", A, more)
    while looks(A) < many:
        A = ("all", "one", A)
    assert looks(A) == many
    return A


class TestTruth(unittest.TestCase):

    def of(self, A, depth=2, env=None, lore=LORE, world=WORLD):
        return truth(lore, world, depth, env or {}, A)

    def test_plain_words(self):
        self.assertIs(self.of(FALSE), False)
        self.assertIs(self.of(same(call("twice", suc(ZERO)), suc(suc(ZERO)))), True)
        self.assertIs(self.of(same(suc(ZERO), ZERO)), False)
        self.assertIs(self.of(same(free("i"), call("spot")), env={"i": 2}), True)
        self.assertIs(self.of(same(free("i"), call("spot")), env={"i": 1}), False)
        self.assertIs(self.of(atom("rain")), True)
        self.assertIs(self.of(atom("even", ZERO)), True)
        self.assertIs(self.of(atom("even", suc(ZERO))), False)
        self.assertIs(self.of(atom("even", call("twice", suc(ZERO)))), True)
        self.assertIs(self.of(atom("near", free("i"), free("j")), env={"i": 0, "j": 1}), False)
        self.assertIs(self.of(atom("near", free("i"), free("j")), env={"i": 1, "j": 0}), True)

    def test_joined_ones(self):
        untold = ("all", "nat", same(bound(0), bound(0)))
        self.assertIs(self.of(untold), None)
        by = {True: TRUE, False: FALSE, None: untold}
        for left, right in itertools.product(by, by):
            told = {word: self.of((word, by[left], by[right])) for word in ("and", "or", "if")}
            both = False if False in (left, right) else None if None in (left, right) else True
            either = True if True in (left, right) else None if None in (left, right) else False
            follows = True if left is False or right is True else False if left is True and right is False else None
            self.assertEqual(told, {"and": both, "or": either, "if": follows}, (left, right))
            for word in told:
                self.assertIs(told[word], {"and": both, "or": either, "if": follows}[word])

    def test_all_and_some_over_all_values(self):
        for word, which, wanted in (("all", same(bound(0), bound(0)), True), ("all", same(bound(0), call("spot")), False),
                                    ("some", same(bound(0), call("spot")), True), ("some", FALSE, False), ("all", FALSE, False),
                                    ("some", TRUE, True), ("all", TRUE, True)):
            for depth in range(3):
                self.assertIs(self.of((word, "item", which), depth), wanted)

    def test_all_and_some_over_not_all_values(self):
        zero, not_zero, same_self = same(bound(0), ZERO), ("if", same(bound(0), ZERO), FALSE), same(bound(0), bound(0))
        two = same(bound(0), number(2))
        for depth in range(5):
            self.assertIs(self.of(("all", "nat", same_self), depth), None)
            self.assertIs(self.of(("some", "nat", FALSE), depth), None)
            self.assertIs(self.of(("all", "nat", FALSE), depth), None if depth == 0 else False)
            self.assertIs(self.of(("some", "nat", zero), depth), None if depth == 0 else True)
            self.assertIs(self.of(("all", "nat", not_zero), depth), None if depth == 0 else False)
            self.assertIs(self.of(("some", "nat", two), depth), True if depth >= 3 else None)
            self.assertIs(self.of(("all", "nat", ("if", two, FALSE)), depth), False if depth >= 3 else None)
            self.assertIs(self.of(("all", "nat", zero), depth), False if depth >= 2 else None)

    def test_a_value_that_is_not_told_keeps_all_and_some_untold(self):
        mixed = ("or", same(bound(0), call("spot")), ("all", "nat", same(bound(0), bound(0))))
        self.assertIs(self.of(("all", "item", mixed)), None)
        self.assertIs(self.of(("some", "item", mixed)), True)
        part = ("and", same(bound(0), call("spot")), ("all", "nat", same(bound(0), bound(0))))
        self.assertIs(self.of(("some", "item", part)), None)
        self.assertIs(self.of(("all", "item", part)), False)

    def test_bounds_of_several(self):
        self.assertIs(self.of(("all", "item", ("some", "item", same(bound(0), bound(1))))), True)
        self.assertIs(self.of(("some", "item", ("all", "item", same(bound(0), bound(1))))), False)
        self.assertIs(self.of(("some", "item", ("some", "nat", ("and", same(bound(1), call("spot")), same(bound(0), suc(ZERO)))))), True)
        A = ("all", "item", ("all", "nat", ("if", atom("even", bound(0)), atom("near", bound(1), bound(1)))))
        self.assertIs(self.of(A), None)
        self.assertIs(self.of(("some", "item", ("all", "item", atom("near", bound(1), bound(0))))), True)
        self.assertIs(self.of(("all", "item", ("all", "item", atom("near", bound(1), bound(0))))), False)
        self.assertIs(self.of(("some", "item", ("some", "item", ("if", atom("near", bound(1), bound(0)), FALSE)))), True)

    def test_statements_looked_at_as_many_as_may_be(self):
        A = looked_at(20000)
        self.assertIs(truth(LOOKS, LOOKS_WORLD, 1, {}, A), True)
        for B in (("all", "one", A), ("some", "one", A), looked_at(20001), ("or", TRUE, A), ("and", FALSE, A), ("if", A, FALSE)):
            self.assertIsNotNone(raised(TooLong, truth, LOOKS, LOOKS_WORLD, 1, {}, B))

    def test_a_statement_is_counted_ahead_of_its_parts(self):
        great = same(number(60), number(60))
        # The and around both is the first one, what stands in the second part comes behind all of the first.
        self.assertIsNotNone(raised(TooGreat, truth, LOOKS, LOOKS_WORLD, 1, {}, ("and", looked_at(19998), great)))
        self.assertIsNotNone(raised(TooLong, truth, LOOKS, LOOKS_WORLD, 1, {}, ("and", looked_at(19999), great)))
        self.assertIsNotNone(raised(TooGreat, truth, LOOKS, LOOKS_WORLD, 1, {}, ("and", great, looked_at(20001))))
        self.assertIsNotNone(raised(TooGreat, truth, LOOKS, LOOKS_WORLD, 1, {}, ("or", looked_at(19997), ("all", "one", great))))
        self.assertIsNotNone(raised(TooLong, truth, LOOKS, LOOKS_WORLD, 1, {}, ("or", looked_at(19998), ("all", "one", great))))

    def test_all_parts_and_all_values_are_looked_at(self):
        lore = Lore([NAT, IDLE, ("open", "o")])
        world = ({"o": 2}, {}, {})
        long, great = same(call("idle", number(11), ZERO), ZERO), same(number(60), ZERO)
        for A in (("and", FALSE, great), ("or", TRUE, great), ("if", FALSE, great), ("if", great, TRUE), ("and", great, long)):
            self.assertIsNotNone(raised(TooGreat, truth, lore, world, 2, {}, A), A)
        for A in (("and", FALSE, long), ("or", TRUE, long), ("and", long, great), same(call("idle", number(11), ZERO), number(60))):
            self.assertIsNotNone(raised(TooLong, truth, lore, world, 2, {}, A), A)
        # The value of the bound is great for the last one alone.
        env = {"n": number_value(58)}
        deeper = [NAT, ("rule", "up", ("nat", "nat"), "nat", (bound(0), suc(suc(bound(1)))))]
        A = ("all", "nat", same(call("up", bound(0), free("n")), ZERO))
        self.assertIs(truth(Lore(deeper), ({}, {}, {}), 1, env, A), False)
        self.assertIsNotNone(raised(TooGreat, truth, Lore(deeper), ({}, {}, {}), 2, env, A))
        B = ("some", "nat", same(call("up", bound(0), free("n")), free("n")))
        self.assertIs(truth(Lore(deeper), ({}, {}, {}), 1, env, B), True)
        self.assertIsNotNone(raised(TooGreat, truth, Lore(deeper), ({}, {}, {}), 2, env, B))

    def test_each_term_has_its_own_count(self):
        lore, world = Lore([NAT, IDLE, ("atom", "p", ("nat", "nat"))]), ({}, {}, {"p": ({}, True)})
        t = call("idle", number(9), ZERO)
        self.assertIs(truth(lore, world, 1, {}, ("and", same(t, t), atom("p", t, t))), True)
        self.assertIsNotNone(raised(TooLong, truth, lore, world, 1, {}, same(call("idle", number(9), t), t)))

    def test_over_many_by_plain_recursion(self):
        rng = random.Random(21)
        rows = ROWS[:14]
        lore = Lore(rows)
        seen = {True: 0, False: 0, None: 0}
        for turn in range(300):
            world = making.world(rng, rows)
            A = making.statement(rng, rows, {}, [], 3)
            for depth in (0, 1, 2):
                def are_all(kind):
                    return kind == "item"
                told = truth(lore, world, depth, {}, A)
                self.assertIs(told, slow.truth(rows, world, depth, {}, (), A, are_all), A)
                seen[told] += 1
        self.assertGreater(min(seen.values()), 50)

    def test_truth_only_grows_with_the_depth(self):
        rng = random.Random(3)
        rows = ROWS[:14]
        lore = Lore(rows)
        for turn in range(150):
            world = making.world(rng, rows)
            A = making.statement(rng, rows, {}, [], 3)
            last = None
            for depth in range(5):
                try:
                    told = truth(lore, world, depth, {}, A)
                except TacticError:
                    break
                if last is not None:
                    self.assertIs(told, last, A)
                last = told

    def test_a_statement_and_its_reckoned_one(self):
        rng = random.Random(8)
        rows = ROWS[:14]
        lore = Lore(rows)
        unlike = 0
        for turn in range(300):
            world = making.world(rng, rows)
            A = making.statement(rng, rows, {"n": "nat", "i": "item"}, [], 3)
            env = {"n": number_value(rng.randrange(3)), "i": 0}
            B = reckoned(lore, A)
            unlike += A != B
            self.assertIs(truth(lore, world, 2, env, A), truth(lore, world, 2, env, B))
        self.assertGreater(unlike, 100)

    def test_what_is_handed_in_stays(self):
        world, env = copy.deepcopy(WORLD), {"i": 1}
        truth(LORE, world, 3, env, ("all", "item", ("some", "nat", same(call("pick", bound(1), bound(0)), free("i")))))
        self.assertEqual((world, env), (WORLD, {"i": 1}))


class TestGoodAndRefutes(unittest.TestCase):

    ROWS = [NAT, ("open", "o"), ("given", "c", (), "o"), ("atom", "p", ("o",)), ("atom", "q", ()),
            ("taken", "every", ("all", "o", atom("p", bound(0)))), ("taken", "only", ("if", atom("q"), FALSE)),
            ("reasoned", "wrong", FALSE, None)]

    def world(self, p=True, q=False, size=2):
        return ({"o": size}, {"c": ({}, 0)}, {"p": ({(0,): True}, p), "q": ({}, q)})

    def test_good(self):
        lore = Lore(self.ROWS)
        self.assertIs(good(lore, self.world(), 1), True)
        self.assertIs(good(lore, self.world(p=False), 1), False)
        self.assertIs(good(lore, self.world(p=False, size=1), 1), True)
        self.assertIs(good(lore, self.world(q=True), 1), False)
        self.assertIs(good(Lore([]), ({}, {}, {}), 0), True)

    def test_what_is_not_told_is_not_good(self):
        lore = Lore([NAT, ("taken", "h", ("all", "nat", same(bound(0), bound(0))))])
        for depth in range(7):
            self.assertIs(good(lore, ({}, {}, {}), depth), False)
        lore = Lore([NAT, ("taken", "h", ("some", "nat", same(bound(0), number(2))))])
        for depth in range(7):
            self.assertIs(good(lore, ({}, {}, {}), depth), depth >= 3)
            self.assertIs(refutes(lore, ({}, {}, {}), depth, FALSE), depth >= 3)

    def test_refutes(self):
        lore = Lore(self.ROWS)
        self.assertIs(refutes(lore, self.world(), 1, FALSE), True)
        self.assertIs(refutes(lore, self.world(), 1, TRUE), False)
        self.assertIs(refutes(lore, self.world(), 1, atom("p", call("c"))), False)
        self.assertIs(refutes(lore, self.world(), 1, atom("q")), True)
        self.assertIs(refutes(lore, self.world(q=True), 1, FALSE), False)
        self.assertIs(refutes(lore, self.world(p=False), 1, FALSE), False)
        self.assertIs(refutes(lore, self.world(), 2, ("all", "nat", same(bound(0), bound(0)))), False)
        self.assertIs(refutes(lore, self.world(), 2, ("all", "nat", same(bound(0), ZERO))), True)
        self.assertIs(refutes(lore, self.world(), 1, ("all", "nat", same(bound(0), ZERO))), False)

    def test_refusals_are_told(self):
        rows = [NAT, IDLE, ("taken", "h", same(number(60), number(60)))]
        self.assertIsNotNone(raised(TooGreat, good, Lore(rows), ({}, {}, {}), 1))
        self.assertIsNotNone(raised(TooGreat, refutes, Lore(rows), ({}, {}, {}), 1, FALSE))
        long = same(call("idle", number(11), ZERO), ZERO)
        self.assertIsNotNone(raised(TooLong, refutes, Lore(rows[:2]), ({}, {}, {}), 1, long))


if __name__ == "__main__":
    unittest.main()
