"""lore: the rows of a book, what is asked of it, and what is refused with NoBook at which place (point 7)."""

import copy
import unittest

from samples import (ADD, FALSE, FIRST, LEN, LIST, NAT, NIL, ROWS, TWICE, ZERO, atom, bound, call, form, free, odd_things, raised,
                     same, suc)
from tacticwright.errors import NoBook
from tacticwright.lore import Lore
from test_terms import WRONG_TERMS

BASE = [NAT, ("open", "item"), LIST]
NONE = object()


def place_of(rows):
    """The place that a refusal of rows tells, NONE where they aren't refused."""
    error = raised(NoBook, Lore, rows)
    return NONE if error is None else error.place


class LoreCase(unittest.TestCase):

    def taken(self, *rows, base=BASE):
        lore = Lore(base + list(rows))
        self.assertEqual(lore.rows(), base + list(rows))
        return lore

    def refused(self, *rows, base=BASE):
        """The last of these rows is refused, the others, and it alone, are why."""
        self.taken(*rows[:-1], base=base)
        at = len(base) + len(rows) - 1
        self.assertEqual(place_of(base + list(rows)), at, rows)
        behind = [("open", "behind"), None, ("nothing",)]
        self.assertEqual(place_of(base + list(rows) + behind), at, rows)


class TestAsked(LoreCase):

    def test_rows(self):
        self.assertEqual(Lore(ROWS).rows(), ROWS)
        self.assertEqual(Lore([]).rows(), [])

    def test_kinds(self):
        lore = Lore(ROWS)
        for kind in ("nat", "item", "list", "pair"):
            self.assertIs(lore.has_kind(kind), True)
        for kind in ("none", "Zero", "add", "even", "rains", "", "x"):
            self.assertIs(lore.has_kind(kind), False)
            self.assertIsNone(lore.forms(kind))
        self.assertEqual(lore.forms("nat"), [("Zero", ()), ("Suc", ("nat",))])
        self.assertEqual(lore.forms("list"), [("Nil", ()), ("Cons", ("item", "list"))])
        self.assertEqual(lore.forms("pair"), [("Pair", ("item", "nat"))])
        self.assertIsNone(lore.forms("item"))

    def test_forms(self):
        lore = Lore(ROWS)
        self.assertEqual(lore.form("Zero"), ("nat", ()))
        self.assertEqual(lore.form("Suc"), ("nat", ("nat",)))
        self.assertEqual(lore.form("Cons"), ("list", ("item", "list")))
        for name in ("zero", "nat", "add", "Add", ""):
            self.assertIsNone(lore.form(name))

    def test_functions_words_and_facts(self):
        lore = Lore(ROWS)
        sorts = {"function": ("given", "short", "rule"), "word": ("atom",), "fact": ("taken", "reasoned")}
        for row in ROWS:
            for ask, words in sorts.items():
                told = getattr(lore, ask)(row[1])
                if row[0] in words:
                    self.assertEqual(told, row)
                else:
                    self.assertIsNone(told)
        for ask in sorts:
            for name in ("none", "Zero", ""):
                self.assertIsNone(getattr(lore, ask)(name))

    def test_no_rows_and_forty(self):
        self.assertEqual(place_of([]), NONE)
        letters = "abcdefghij"
        names = [a + b for a in letters for b in letters][:41]
        self.assertEqual(Lore([("open", name) for name in names[:40]]).has_kind(names[39]), True)
        self.assertIsNone(place_of([("open", name) for name in names]))
        self.assertIsNone(place_of([None] * 41))
        self.assertEqual(place_of([("open", name) for name in names[:39]] + [("open", "aa")]), 39)

    def test_names_alike_across_the_sorts(self):
        rows = [("open", "same"), ("given", "same", (), "same"), ("atom", "same", ("same",)),
                ("taken", "same", ("all", "same", same(bound(0), call("same")))), ("kind", "if", (("Same", ()),))]
        lore = Lore(rows)
        self.assertEqual(lore.rows(), rows)
        self.assertEqual([lore.function("same"), lore.word("same"), lore.fact("same")], rows[1:4])


class TestOwn(LoreCase):

    def test_a_list_handed_in_and_changed_changes_nothing(self):
        rows = list(ROWS)
        lore = Lore(rows)
        self.assertEqual(rows, ROWS)
        rows.append(("open", "new"))
        rows[0] = None
        self.assertEqual(lore.rows(), ROWS)
        self.assertFalse(lore.has_kind("new"))

    def test_lists_told_and_changed_change_nothing(self):
        lore = Lore(ROWS)
        lore.rows().append(1)
        lore.rows().clear()
        lore.forms("nat").append(("New", ()))
        lore.forms("nat").reverse()
        self.assertEqual(lore.rows(), ROWS)
        self.assertEqual(lore.forms("nat"), [("Zero", ()), ("Suc", ("nat",))])
        self.assertIsNone(lore.form("New"))

    def test_lists_within_a_reason_are_the_askers_own(self):
        def fresh():
            return ("give", [1, [2], {"a": [3]}], {"b": (4, [5])})
        p = fresh()
        lore = Lore([("reasoned", "h", ("if", FALSE, FALSE), p)])
        row = ("reasoned", "h", ("if", FALSE, FALSE), fresh())
        for change in range(2):
            p[1][1].append("changed")
            p[1][2]["a"].append("changed")
            p[2]["b"][1].append("changed")
            p[2]["c"] = "changed"
            self.assertEqual(lore.rows(), [row])
            self.assertEqual(lore.fact("h"), row)
            p = lore.rows()[0][3] if change == 0 else lore.fact("h")[3]
        p[1].clear()
        self.assertEqual(lore.rows(), [row])
        self.assertEqual(lore.fact("h"), row)

    def test_a_reason_that_holds_itself(self):
        knot = [1]
        knot.append(knot)
        lore = Lore([("reasoned", "h", ("if", FALSE, FALSE), knot)])
        self.assertEqual(lore.fact("h")[3][0], 1)

    def test_a_reason_that_stands_in_itself_very_often(self):
        p = ("fact", "h")
        for turn in range(100):
            p = ("give", p, p)
        self.assertEqual(len(Lore([("reasoned", "h", ("if", FALSE, FALSE), p)]).rows()), 1)


class TestNoBook(LoreCase):

    def test_what_is_no_list(self):
        for thing in odd_things() + [tuple(ROWS), {0: NAT}, "kind", iter(ROWS), NAT]:
            if not isinstance(thing, list):
                self.assertIsNone(place_of(thing), repr(thing))

    def test_rows_of_anything(self):
        for thing in odd_things():
            self.assertEqual(place_of([thing]), 0, repr(thing))
            self.assertEqual(place_of(ROWS + [thing]), len(ROWS), repr(thing))
            self.assertEqual(place_of([NAT, thing] + ROWS), 1, repr(thing))

    def test_the_first_wrong_row_is_told(self):
        self.assertEqual(place_of([NAT, ("open",), ("open", "nat"), None]), 1)
        self.assertEqual(place_of([None, ("open",), ("open", "nat"), None]), 0)
        self.assertEqual(place_of([NAT, ("open", "a"), ("open", "a"), ("open", "nat")]), 2)

    def test_each_row_a_part_less_a_part_more_or_a_list(self):
        for at, row in enumerate(ROWS):
            for thing in (row[:-1], row + (None,), row + (row[-1],), list(row), ("x",) + row[1:], (None,) + row[1:],
                          (row[0].title(),) + row[1:], (row[0],), row[:2] + (row[2:],) if len(row) > 3 else ()):
                self.assertEqual(place_of(ROWS[:at] + [thing]), at, repr(thing))

    def test_each_name_is_a_name(self):
        for at, row in enumerate(ROWS):
            for name in ("", "X", "all", "some", "false", "and", "or", "abcdefghi", "a1", None, True, 1, ("a",), ["a"], {}, b"a"):
                self.assertEqual(place_of(ROWS[:at] + [(row[0], name) + row[2:]]), at, (row, name))

    def test_each_row_of_the_same_name_twice(self):
        for row in ROWS:
            self.assertEqual(place_of(ROWS + [row]), len(ROWS), row)

    def test_names_alike_of_one_sort(self):
        self.refused(("open", "nat"))
        self.refused(("kind", "item", (("New", ()),)))
        self.refused(("open", "new"), ("kind", "new", (("New", ()),)))
        for first in (("given", "f", ("nat",), "nat"), ("short", "f", ("nat",), "nat", ZERO), ("rule", "f", ("nat",), "nat", (ZERO, ZERO))):
            for then in (("given", "f", (), "nat"), ("short", "f", (), "nat", ZERO), ("rule", "f", ("list",), "nat", (ZERO, ZERO))):
                self.refused(first, then)
        self.refused(("atom", "p", ()), ("atom", "p", ("nat",)))
        self.refused(("taken", "h", FALSE), ("reasoned", "h", FALSE, None))
        self.refused(("reasoned", "h", FALSE, None), ("taken", "h", ("if", FALSE, FALSE)))


class TestKindRows(LoreCase):

    def test_right_ones(self):
        self.taken(("kind", "one", (("One", ()),)))
        self.taken(("kind", "four", (("A", ()), ("B", ("four",)), ("C", ("four", "nat", "item", "four")), ("D", ("list",)))))
        self.taken(("kind", "box", (("Box", ("item", "nat", "list", "item")),)))
        self.taken(("kind", "bool", (("True", ()), ("False", ()))))
        self.taken(("kind", "word", (("All", ()), ("Or", ()), ("Abcdefgh", ()))))

    def test_forms_as_many_as_may_be(self):
        self.refused(("kind", "none", ()))
        self.refused(("kind", "five", (("A", ()), ("B", ()), ("C", ()), ("D", ()), ("E", ()))))

    def test_forms_are_tuples(self):
        good = ("A", ())
        for forms in (None, [], [good], good, "A", {"A": ()}, True, (None,), ("A",), (["A", ()],), (("A",),), (("A", (), ()),),
                      ((),), (good, None), (good, ["B", ()]), (("A", []),), (("A", None),), (("A", "nat"),), (("A", {}),),
                      ((("A", ()),),), (("A", (("nat",),)),)):
            self.refused(("kind", "new", forms))

    def test_names_of_forms(self):
        for name in ("a", "", "AA", "Abcdefghi", "A1", "all", None, True, 0, ("A",), ["A"], {}):
            self.refused(("kind", "new", ((name, ()),)))
            self.refused(("kind", "new", (("Good", ()), (name, ()))))

    def test_names_of_forms_are_unlike(self):
        self.refused(("kind", "new", (("Zero", ()),)))
        self.refused(("kind", "new", (("A", ()), ("Cons", ()))))
        self.refused(("kind", "new", (("A", ()), ("A", ()))))
        self.refused(("kind", "new", (("A", ()), ("B", ()), ("A", ("nat",)))))
        self.refused(("kind", "one", (("A", ()),)), ("kind", "two", (("B", ()), ("A", ()))))

    def test_kinds_of_parts(self):
        for kinds in (("none",), ("nat", "none"), ("Nat",), (1,), (None,), (True,), (["nat"],), (("nat",),), ("nat",) * 5, ("later",),
                      ({},), ("add",), ("Zero",)):
            self.refused(("kind", "new", (("A", kinds),)))
            self.refused(("kind", "new", (("A", ()), ("B", kinds))))
        self.assertEqual(place_of(BASE + [("kind", "new", (("A", ("later",)),)), ("open", "later")]), 3)
        self.refused(("kind", "new", (("A", ()), ("B", ("new",) * 5))))

    def test_the_first_form_is_of_earlier_kinds(self):
        self.refused(("kind", "new", (("A", ("new",)),)))
        self.refused(("kind", "new", (("A", ("nat", "new")), ("B", ()))))
        self.taken(("kind", "new", (("B", ()), ("A", ("nat", "new")))))


class TestGivenAndAtomRows(LoreCase):

    def test_right_ones(self):
        for kinds in ((), ("nat",), ("item", "list"), ("nat",) * 4):
            self.taken(("given", "f", kinds, "nat"))
            self.taken(("given", "f", kinds, "item"))
            self.taken(("atom", "p", kinds))

    def test_kinds(self):
        for kinds in (("none",), ("nat", "none"), ("nat",) * 5, ["nat"], [], None, "nat", "", {}, (1,), (None,), (["nat"],),
                      ("Zero",), (("nat",),), ("f",), ("later",)):
            self.refused(("given", "f", kinds, "nat"))
            self.refused(("atom", "p", kinds))
            self.assertEqual(place_of(BASE + [("atom", "p", kinds), ("open", "later")]), 3)
        for kind in ("none", "Nat", "", None, True, ("nat",), ["nat"], "Zero", "f"):
            self.refused(("given", "f", (), kind))


class TestShortRows(LoreCase):

    def test_right_ones(self):
        self.taken(("short", "two", (), "nat", suc(suc(ZERO))))
        self.taken(("short", "id", ("nat",), "nat", bound(0)))
        self.taken(("short", "drop", ("nat", "item", "list"), "list", form("Cons", bound(1), bound(2))))
        self.taken(("given", "f", ("item",), "item"), ("short", "ff", ("item",), "item", call("f", call("f", bound(0)))))
        self.taken(ADD, TWICE, ("short", "quad", ("nat",), "nat", call("twice", call("twice", bound(0)))))
        self.taken(("short", "last", ("nat", "item", "list", "nat"), "nat", bound(3)))

    def test_kinds(self):
        for kinds in (("none",), ("nat",) * 5, ["nat"], None, (1,), (None,), ("Zero",)):
            self.refused(("short", "f", kinds, "nat", ZERO))
        for kind in ("none", None, True, ("nat",), "Zero"):
            self.refused(("short", "f", (), kind, ZERO))

    def test_the_term_is_of_its_kind(self):
        self.refused(("short", "f", ("nat",), "nat", NIL))
        self.refused(("short", "f", ("nat", "item"), "nat", bound(1)))
        self.refused(("short", "f", ("nat", "item"), "item", bound(0)))
        self.refused(("short", "f", ("item",), "nat", suc(bound(0))))
        self.refused(("short", "f", ("nat",), "nat", form("Suc")))
        self.refused(("short", "f", ("nat",), "nat", form("None")))

    def test_bounds_are_args(self):
        self.refused(("short", "f", (), "nat", bound(0)))
        self.refused(("short", "f", ("nat",), "nat", bound(1)))
        self.refused(("short", "f", ("nat",), "nat", suc(suc(bound(1)))))

    def test_it_has_no_free(self):
        self.refused(("short", "f", ("nat",), "nat", free("x")))
        self.refused(("short", "f", ("nat",), "nat", suc(free("f"))))

    def test_it_calls_earlier_functions_alone(self):
        self.refused(("short", "f", ("nat",), "nat", call("g", bound(0))))
        self.refused(("short", "f", ("nat",), "nat", call("f", bound(0))))
        self.refused(("short", "f", ("nat",), "nat", suc(suc(call("f", bound(0))))))
        self.refused(("short", "f", (), "nat", call("f")))
        self.assertEqual(place_of(BASE + [("short", "f", ("nat",), "nat", call("g", bound(0))), ("given", "g", ("nat",), "nat")]), 3)

    def test_of_anything(self):
        for thing in odd_things() + WRONG_TERMS:
            self.refused(("short", "f", ("nat",), "nat", thing))
            self.refused(("short", "f", ("nat",), "nat", ("form", "Suc", (thing,))))


class TestRuleRows(LoreCase):

    def test_right_ones(self):
        self.taken(ADD)
        self.taken(LEN)
        self.taken(FIRST)
        self.taken(("rule", "f", ("nat", "item", "list", "nat"), "list", (form("Cons", bound(0), bound(1)), bound(2))))
        self.taken(("rule", "f", ("list", "nat", "item"), "item", (bound(1), bound(0))))

    def test_a_kind_of_forms_with_many_parts(self):
        big = ("kind", "big", (("Dot", ("item",)), ("Big", ("big", "nat", "big", "item"))))
        right = ("rule", "f", ("big", "nat", "nat", "nat"), "nat",
                 (bound(3), call("f", bound(0), bound(1), call("f", bound(2), bound(4), bound(5), bound(6)), ZERO)))
        self.taken(big, right)
        for k in (1, 3, 4, 5, 6, 7):
            self.refused(big, right[:4] + ((ZERO, call("f", bound(k), ZERO, ZERO, ZERO)),))
        self.refused(big, right[:4] + ((ZERO, bound(7)),))
        self.refused(big, right[:4] + ((bound(4), ZERO),))
        self.refused(big, right[:4] + ((ZERO, bound(3)),))

    def test_the_first_kind_is_a_made_one(self):
        self.refused(("rule", "f", (), "nat", (ZERO, ZERO)))
        self.refused(("rule", "f", (), "nat", ()))
        self.refused(("rule", "f", ("item",), "nat", (ZERO, ZERO)))
        self.refused(("rule", "f", ("item",), "nat", ()))
        self.refused(("rule", "f", ("item", "nat"), "nat", (ZERO, ZERO)))

    def test_kinds(self):
        for kinds in (("none",), ("nat", "none"), ("nat",) * 5, ["nat"], None, (1,), (None,), "nat"):
            self.refused(("rule", "f", kinds, "nat", (ZERO, ZERO)))
        for kind in ("none", None, True, ("nat",), "Zero"):
            self.refused(("rule", "f", ("nat",), kind, (ZERO, ZERO)))

    def test_a_term_for_each_form(self):
        for terms in ((), (ZERO,), (ZERO, ZERO, ZERO), [ZERO, ZERO], None, ZERO, "ab", {0: ZERO, 1: ZERO}, 2):
            self.refused(("rule", "f", ("nat",), "nat", terms))

    def test_terms_are_of_its_kind(self):
        self.refused(("rule", "f", ("nat",), "nat", (NIL, ZERO)))
        self.refused(("rule", "f", ("nat",), "nat", (ZERO, NIL)))
        self.refused(("rule", "f", ("nat", "item"), "item", (bound(0), bound(0))))
        self.taken(("rule", "f", ("nat", "item"), "item", (bound(0), bound(1))))
        self.refused(("rule", "f", ("list",), "list", (NIL, bound(0))))
        self.refused(("rule", "f", ("list",), "item", (NIL, bound(0))))

    def test_bounds_are_parts_and_other_args(self):
        self.refused(("rule", "f", ("nat",), "nat", (bound(0), ZERO)))
        self.refused(("rule", "f", ("nat",), "nat", (ZERO, bound(1))))
        self.refused(("rule", "f", ("nat", "nat"), "nat", (bound(1), ZERO)))
        self.taken(("rule", "f", ("nat", "nat"), "nat", (bound(0), bound(1))))

    def test_terms_have_no_free(self):
        self.refused(("rule", "f", ("nat",), "nat", (free("x"), ZERO)))
        self.refused(("rule", "f", ("nat",), "nat", (ZERO, suc(free("x")))))

    def test_it_calls_earlier_functions_and_itself_inward(self):
        for t in (call("f", bound(0), bound(1)), suc(call("f", bound(0), ZERO)), call("f", bound(0), call("f", bound(0), bound(1))),
                  call("f", bound(0), suc(suc(call("f", bound(0), bound(0)))))):
            self.taken(("rule", "f", ("nat", "nat"), "nat", (ZERO, t)))
        for t in (call("f", bound(1), bound(0)), call("f", suc(bound(0)), ZERO), call("f", ZERO, ZERO), suc(call("f", bound(1), ZERO)),
                  call("f", bound(0), call("f", bound(1), ZERO)), call("f", bound(0), suc(call("f", ZERO, ZERO))),
                  call("f", call("f", bound(0), ZERO), ZERO), call("f", bound(0)), call("f"), call("g", bound(0), bound(1))):
            self.refused(("rule", "f", ("nat", "nat"), "nat", (ZERO, t)))
        for t in (call("f", bound(0), ZERO), call("f", ZERO, bound(0)), suc(call("f", bound(0), bound(0)))):
            self.refused(("rule", "f", ("nat", "nat"), "nat", (t, ZERO)))
        self.taken(("rule", "f", ("list",), "nat", (ZERO, call("f", bound(1)))))
        self.refused(("rule", "f", ("list",), "nat", (ZERO, call("f", bound(0)))))

    def test_a_call_of_itself_within_calls_of_others(self):
        self.taken(ADD, ("rule", "mul", ("nat", "nat"), "nat", (ZERO, call("add", bound(1), call("mul", bound(0), bound(1))))))
        self.refused(ADD, ("rule", "mul", ("nat", "nat"), "nat", (ZERO, call("add", bound(1), call("mul", bound(1), bound(0))))))
        self.refused(("rule", "f", ("nat",), "nat", (ZERO, call("g", bound(0)))))
        late = [("rule", "f", ("nat",), "nat", (ZERO, call("g", bound(0)))), ("rule", "g", ("nat",), "nat", (ZERO, ZERO))]
        self.assertEqual(place_of(BASE + late), 3)

    def test_of_anything(self):
        for thing in odd_things() + WRONG_TERMS:
            self.refused(("rule", "f", ("nat",), "nat", (thing, ZERO)))
            self.refused(("rule", "f", ("nat",), "nat", (ZERO, ("form", "Suc", (thing,)))))


class TestFactRows(LoreCase):

    def both(self, name, A):
        return [("taken", name, A), ("reasoned", name, A, ("fact", "none"))]

    def test_right_ones(self):
        for A in (FALSE, ("all", "nat", ("some", "item", ("and", same(bound(1), ZERO), same(bound(0), bound(0)))))):
            for row in self.both("h", A):
                self.taken(row)
        for name in ("set", "settl", "setle", "asettle", "sett", "h"):
            for row in self.both(name, FALSE):
                self.taken(row)

    def test_names_that_begin_with_settle(self):
        for name in ("settle", "settlea", "settleab", "settler"):
            for row in self.both(name, FALSE):
                self.refused(row)
            self.taken(("open", name), ("given", name, (), name), ("atom", name, ()))

    def test_the_statement_is_right_whole_and_without_free(self):
        for A in (same(ZERO, NIL), same(free("x"), free("x")), same(bound(0), bound(0)), ("all", "nat", same(bound(1), bound(1))),
                  ("all", "none", FALSE), atom("none"), same(call("none"), ZERO), ZERO, ("all", "nat", same(bound(0), free("x")))):
            for row in self.both("h", A):
                self.refused(row)
        self.refused(("atom", "p", ("nat",)), ("taken", "h", atom("p")))

    def test_of_anything(self):
        for thing in odd_things():
            if thing != FALSE:
                for row in self.both("h", thing) + self.both("h", ("and", FALSE, thing)):
                    self.refused(row)

    def test_reasons_are_not_looked_at(self):
        for thing in odd_things()[:-5]:
            row = ("reasoned", "h", FALSE, thing)
            self.assertEqual(self.taken(row).fact("h"), row)
        before = copy.deepcopy(ROWS)
        Lore(ROWS)
        self.assertEqual(ROWS, before)

    def test_later_rows_are_not_known(self):
        self.assertEqual(place_of([("taken", "h", ("all", "nat", FALSE)), NAT]), 0)
        self.assertEqual(place_of([("taken", "h", atom("p")), ("atom", "p", ())]), 0)


if __name__ == "__main__":
    unittest.main()
