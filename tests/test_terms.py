"""terms: names, terms, nodes, free names, places and args (points 4, 6 and 7)."""

import unittest

import slow
from samples import FALSE, ZERO, atom, bound, call, form, free, nested, odd_things, same, suc
from tacticwright.terms import alike, args_put, at_place, free_in, is_form_name, is_great, is_name, is_term, nodes, with_place

RIGHT_TERMS = [
    free("x"), free("abcdefgh"), bound(0), bound(1), bound(99), ZERO, form("C"), form("C", free("x")),
    form("Pair", free("x"), bound(0)), form("Tri", ZERO, ZERO, ZERO), form("Four", ZERO, free("a"), bound(2), call("f")),
    call("f"), call("f", free("x")), call("f", free("x"), bound(3)), call("f", ZERO, ZERO, ZERO),
    call("f", ZERO, ZERO, ZERO, ZERO), call("f", call("f", form("C", call("g", free("y"))))),
    ("free", "alls"), ("free", "an"), ("call", "if", ()), ("call", "same", ()), ("free", "free"), ("form", "All", ()),
    nested(60, ZERO), nested(60, bound(5)), nested(60, free("x")),
]

WRONG_TERMS = [
    ("free",), ("free", "x", "y"), ["free", "x"], ("free", ""), ("free", "X"), ("free", "all"), ("free", 1),
    ("free", None), ("free", ("x",)), ("free", ["x"]), ("free", "abcdefghi"), ("free", "x\n"),
    ("bound",), ("bound", 0, 0), ["bound", 0], ("bound", -1), ("bound", True), ("bound", False), ("bound", "0"),
    ("bound", None), ("bound", 1.0), ("bound", (0,)),
    ("form", "C"), ("form", "C", (), ()), ["form", "C", ()], ("form", "c", ()), ("form", "", ()), ("form", "CC", ()),
    ("form", "C", []), ("form", "C", {}), ("form", "C", None), ("form", "C", "x"), ("form", "C", (ZERO,) * 5),
    ("form", "C", ("x",)), ("form", "C", (["free", "x"],)), ("form", "C", (FALSE,)), ("form", 1, ()),
    ("form", None, ()), ("form", "Abcdefghi", ()), ("form", "C", ZERO), ("form", "C", (ZERO, None)),
    ("call", "f"), ("call", "f", (), ()), ["call", "f", ()], ("call", "F", ()), ("call", "or", ()), ("call", "", ()),
    ("call", "f", []), ("call", "f", None), ("call", "f", (ZERO,) * 5), ("call", "f", (1,)), ("call", "f", (True,)),
    ("call", "f", free("x")), ("call", "f", (ZERO, ("bound", -1))), ("calls", "f", ()), ("Form", "C", ()),
    same(ZERO, ZERO), atom("p"), FALSE, ("atom", "p", ()), ("and", FALSE, FALSE), (None, "x"), (1, 2), ((), ()),
    ([], "x"), ({}, "x"), nested(60, ("free", "X")), nested(59, FALSE), nested(3, ["free", "x"]),
]


def spoilt(thing):
    """Things like thing, each with one fault or change at one of its places."""
    yield list(thing)
    yield thing[:-1]
    yield thing + (ZERO,)
    yield thing + ("x",)
    for k, part in enumerate(thing):
        for other in (None, True, False, -1, 0, "", "x", "All", "all", (), [], {}, ("x",), FALSE, free("x"), bound(True), 7.0):
            yield thing[:k] + (other,) + thing[k + 1:]
        if isinstance(part, tuple):
            for worse in spoilt(part):
                yield thing[:k] + (worse,) + thing[k + 1:]


class TestNames(unittest.TestCase):

    def test_names_by_their_length(self):
        for many in range(12):
            self.assertIs(is_name("a" * many), 1 <= many <= 8, many)
            self.assertIs(is_form_name("A" + "a" * many), many <= 7, many)
        self.assertIs(is_form_name(""), False)

    def test_each_letter(self):
        for code in range(300):
            sign = chr(code)
            small, great = "a" <= sign <= "z", "A" <= sign <= "Z"
            self.assertIs(is_name(sign), small, sign)
            self.assertIs(is_form_name(sign), great, sign)
            for text in ("x" + sign + "x", sign + "xx", "xx" + sign):
                self.assertIs(is_name(text), small, text)
            for text in ("X" + sign + "x", "Xx" + sign):
                self.assertIs(is_form_name(text), small, text)

    def test_kept_words_and_their_neighbours(self):
        for word in ("false", "all", "some", "and", "or"):
            self.assertIs(is_name(word), False, word)
            for near in (word + "s", "x" + word, word[:-1], word[1:], word[::-1], word + word[:1]):
                self.assertIs(is_name(near), True, near)
            self.assertIs(is_form_name(word), False)
            self.assertIs(is_form_name(word.title()), True)
            self.assertIs(is_name(word.title()), False)
        for word in ("if", "not", "same", "atom", "free", "bound", "form", "call", "settle", "true", "none"):
            self.assertIs(is_name(word), True, word)

    def test_figures_blanks_and_line_feeds(self):
        for text in ("a1", "1", "a b", " a", "a ", "a\n", "\na", "\n", " ", "a_b", "a-b", "_", "a.b", "\u00e4", "\u0430", "a\x00"):
            self.assertIs(is_name(text), False, text)
            self.assertIs(is_form_name(text.upper()), False, text)
            self.assertIs(is_form_name("A" + text[1:] + "\n"), False, text)

    def test_things_that_are_no_text(self):
        for thing in odd_things():
            if not isinstance(thing, str):
                self.assertIs(is_name(thing), False, repr(thing))
                self.assertIs(is_form_name(thing), False, repr(thing))
        for thing in (("a",), ["a"], {"a": 1}, b"a", [b"A"], ("A",), ["A"]):
            self.assertIs(is_name(thing), False)
            self.assertIs(is_form_name(thing), False)


class TestIsTerm(unittest.TestCase):

    def test_right_terms(self):
        for t in RIGHT_TERMS:
            self.assertIs(is_term(t), True, repr(t))

    def test_wrong_terms(self):
        for thing in WRONG_TERMS:
            self.assertIs(is_term(thing), False, repr(thing))

    def test_anything(self):
        for thing in odd_things():
            self.assertIs(is_term(thing), False, repr(thing))

    def test_each_spoilt_at_each_of_its_places(self):
        many = 0
        for t in RIGHT_TERMS[:-3]:
            for thing in spoilt(t):
                self.assertIs(is_term(thing), slow.is_term(thing), repr(thing))
                many += not is_term(thing)
        self.assertGreater(many, 1000)

    def test_far_deeper_than_a_call_may_go(self):
        self.assertIs(is_term(nested(5000, ZERO)), True)
        self.assertIs(is_term(nested(5000, ("free", "X"))), False)


class TestNodes(unittest.TestCase):

    def test_nodes_of_terms(self):
        for t in RIGHT_TERMS:
            self.assertEqual(nodes(t), slow.nodes(t))
        self.assertEqual(nodes(free("x")), 1)
        self.assertEqual(nodes(bound(3)), 1)
        self.assertEqual(nodes(nested(60, ZERO)), 61)

    def test_each_as_often_as_it_stands(self):
        t = form("Pair", free("x"), free("x"))
        self.assertEqual(nodes(t), 3)
        self.assertEqual(nodes(form("Pair", t, t)), 7)
        self.assertEqual(nodes(same(t, t)), 7)
        self.assertEqual(nodes(("and", same(t, t), same(t, t))), 15)

    def test_nodes_of_statements(self):
        self.assertEqual(nodes(FALSE), 1)
        self.assertEqual(nodes(atom("p")), 1)
        self.assertEqual(nodes(atom("p", ZERO, suc(ZERO))), 4)
        for word in ("and", "or", "if"):
            self.assertEqual(nodes((word, FALSE, atom("p", ZERO))), 4)
        for word in ("all", "some"):
            self.assertEqual(nodes((word, "nat", (word, "nat", same(bound(0), bound(1))))), 5)

    def test_great_ones(self):
        wide = form("Four", *[form("Four", ZERO, ZERO, ZERO, ZERO)] * 4)
        for k in range(4):
            wide = form("Pair", wide, wide)
        self.assertEqual(nodes(wide), 351)
        self.assertIs(is_great(nested(60, ZERO)), False)
        self.assertIs(is_great(nested(61, ZERO)), True)
        self.assertIs(is_great(same(nested(59, ZERO), ZERO)), False)
        self.assertIs(is_great(same(nested(60, ZERO), ZERO)), True)
        fives = form("Four", wide, wide, wide, wide)
        self.assertEqual(nodes(fives), 1405)
        right = form("Pair", fives, nested(58, form("Pair", ZERO, ZERO)))
        self.assertIs(is_great(right), False)
        filled = form("Four", fives, wide, nested(55, ZERO), nested(55, ZERO))
        self.assertEqual(nodes(filled), 1869)
        full = form("Tri", filled, nested(58, ZERO), nested(58, ZERO))
        self.assertEqual(nodes(full), 1988)
        most = form("Pair", full, nested(10, ZERO))
        self.assertEqual(nodes(most), 2000)
        self.assertIs(is_great(most), False)
        self.assertIs(is_great(form("Pair", full, nested(11, ZERO))), True)


class TestFreeIn(unittest.TestCase):

    def test_told_once_and_in_order(self):
        t = form("Four", free("z"), call("f", free("a"), free("z")), free("m"), bound(0))
        self.assertEqual(free_in(t), ["a", "m", "z"])
        self.assertEqual(free_in(ZERO), [])
        self.assertEqual(free_in(bound(1)), [])
        self.assertEqual(free_in(free("x")), ["x"])
        self.assertEqual(free_in(call("f", free("ab"), free("b"), free("aa"), free("b"))), ["aa", "ab", "b"])

    def test_of_statements(self):
        self.assertEqual(free_in(FALSE), [])
        self.assertEqual(free_in(atom("p", free("y"), free("x"))), ["x", "y"])
        A = ("if", ("all", "x", same(free("x"), bound(0))), ("some", "nat", ("or", atom("y", free("b")), atom("q"))))
        self.assertEqual(free_in(A), ["b", "x"])

    def test_the_list_is_the_askers_own(self):
        t = form("Pair", free("x"), free("y"))
        told = free_in(t)
        told.append("z")
        self.assertEqual(free_in(t), ["x", "y"])
        self.assertEqual(t, form("Pair", free("x"), free("y")))


class TestPlaces(unittest.TestCase):

    def test_at_every_place(self):
        for t in RIGHT_TERMS:
            for place in slow.places(t):
                self.assertEqual(at_place(t, place), slow.at(t, place))

    def test_none_where_there_is_no_place(self):
        t = form("Pair", free("x"), call("f", bound(0)))
        for place in ((2,), (0, 0), (1, 1), (1, 0, 0), (-1,), (1, -1), (0, -1), (4,), (100, 0), (1, 0, -1)):
            self.assertIsNone(at_place(t, place), place)
        for leaf in (free("x"), bound(0), ZERO, call("f")):
            self.assertEqual(at_place(leaf, ()), leaf)
            for place in ((0,), (1,), (-1,), (0, 0)):
                self.assertIsNone(at_place(leaf, place))

    def test_with_place_at_every_place(self):
        u = call("new", free("u"))
        for t in RIGHT_TERMS:
            for place in slow.places(t):
                made = with_place(t, place, u)
                self.assertEqual(made, slow.put_at(t, place, u))
                self.assertEqual(at_place(made, place), u)
                self.assertEqual(with_place(made, place, at_place(t, place)), t)

    def test_what_was_told_may_be_handed_in_again(self):
        t = suc(bound(0))
        place = (0,)
        for turn in range(2000):
            t = with_place(t, place, suc(bound(0)))
            place += (0,)
        self.assertEqual(nodes(t), 2002)
        self.assertEqual(at_place(t, place), bound(0))
        self.assertEqual(nodes(args_put(t, (ZERO,))), 2002)
        self.assertEqual(free_in(args_put(t, (free("x"),))), ["x"])


class TestArgsPut(unittest.TestCase):

    def test_all_at_once(self):
        t = call("f", bound(0), bound(1), form("C", bound(0)))
        self.assertEqual(args_put(t, (bound(1), bound(0))), call("f", bound(1), bound(0), form("C", bound(1))))
        self.assertEqual(args_put(t, (free("x"), ZERO)), call("f", free("x"), ZERO, form("C", free("x"))))

    def test_bounds_within_the_args_stay(self):
        arg = call("g", bound(0), bound(7), free("x"))
        self.assertEqual(args_put(bound(0), (arg,)), arg)
        self.assertEqual(args_put(form("C", bound(1)), (ZERO, arg)), form("C", arg))
        self.assertEqual(args_put(form("Pair", bound(0), bound(1)), (arg, bound(0))), form("Pair", arg, bound(0)))

    def test_frees_and_empty_ones_stay(self):
        t = call("f", free("x"), ZERO)
        self.assertEqual(args_put(t, ()), t)
        self.assertEqual(args_put(t, (ZERO, ZERO)), t)
        self.assertEqual(args_put(free("x"), (ZERO,)), free("x"))

    def test_bounds_beyond_the_args_stay(self):
        self.assertEqual(args_put(form("Pair", bound(0), bound(1)), (ZERO,)), form("Pair", ZERO, bound(1)))
        self.assertEqual(args_put(bound(0), ()), bound(0))

    def test_seven_bounds(self):
        args = tuple(free(x) for x in "abcdefg")
        t = call("f", form("Four", bound(6), bound(5), bound(4), bound(3)), bound(2), bound(1), bound(0))
        made = call("f", form("Four", free("g"), free("f"), free("e"), free("d")), free("c"), free("b"), free("a"))
        self.assertEqual(args_put(t, args), made)


class TestAlike(unittest.TestCase):

    def test_each_against_each(self):
        pair = ("and", FALSE, atom("p"))
        things = RIGHT_TERMS + [FALSE, same(ZERO, bound(0)), same(bound(0), ZERO), atom("p"), atom("q"), atom("p", ZERO), atom("p", bound(0)), pair,
                                ("or",) + pair[1:], ("if",) + pair[1:], ("if", atom("p"), FALSE), ("all", "nat", FALSE), ("some", "nat", FALSE),
                                ("all", "item", FALSE), ("all", "nat", atom("p")), ("all", "nat", pair)]
        for one in things:
            for other in things:
                self.assertIs(alike(one, other), one == other, (one, other))

    def test_however_deep(self):
        self.assertIs(alike(nested(5000, ("free", "x")), nested(5000, ("free", "x"))), True)
        self.assertIs(alike(nested(5000, ("free", "x")), nested(5000, ("free", "y"))), False)
        self.assertIs(alike(nested(5000, ("free", "x")), nested(4999, ("free", "x"))), False)


if __name__ == "__main__":
    unittest.main()
