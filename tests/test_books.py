"""books: lore whose reasoned rows are looked at (points 3 and 7)."""

import copy
import random
import unittest

import making
import test_lore
from looksamples import ADDED, ADDING, BOOK_ROWS, EVENS, RAIN, RIGHT, even, no
from samples import FALSE, NAT, ROWS, ZERO, atom, bound, call, free, odd_things, raised, same, suc
from tacticwright.books import Book
from tacticwright.errors import NoBook, TooGreat, TooLong
from tacticwright.looker import looked
from tacticwright.lore import Lore
from tacticwright.reasons import reasons_in, with_reasons
from tacticwright.worlds import good, refutes, truth

NONE = test_lore.NONE
IDLE = ("into", "g", RAIN, ("fact", "g"))
DRY = ("if", RAIN, RAIN)
BASE = [NAT, ("atom", "rain", ()), ("atom", "even", ("nat",)), ("rule", "add", ("nat", "nat"), "nat",
        (bound(0), suc(call("add", bound(0), bound(1)))))]


def place_of(rows):
    error = raised(NoBook, Book, rows)
    return NONE if error is None else error.place


class TestRight(unittest.TestCase):

    def test_rows_of_every_sort(self):
        rows = BOOK_ROWS + [("reasoned", "adding", ("all", "nat", ADDED), ADDING), ("reasoned", "dry", DRY, IDLE)]
        book = Book(rows)
        self.assertIsInstance(book, Lore)
        self.assertEqual(book.rows(), rows)
        lore = Lore(rows)
        for row in rows:
            for ask in ("forms", "has_kind", "form", "function", "word", "fact"):
                self.assertEqual(getattr(book, ask)(row[1]), getattr(lore, ask)(row[1]))
        for name in ("Zero", "Suc", "Cons", "Pair", "None"):
            self.assertEqual(book.form(name), lore.form(name))

    def test_no_rows(self):
        self.assertEqual(Book([]).rows(), [])

    def test_a_reason_by_earlier_facts_taken_and_reasoned(self):
        rows = BASE + [("taken", "wet", RAIN), ("reasoned", "a", DRY, IDLE),
                       ("reasoned", "b", ("and", RAIN, DRY), ("both", ("fact", "wet"), ("fact", "a"))),
                       ("reasoned", "c", DRY, ("second", ("fact", "b")))]
        self.assertEqual(Book(rows).fact("c"), rows[-1])

    def test_lists_changed_change_nothing(self):
        rows = BASE + [("reasoned", "a", DRY, IDLE)]
        kept = copy.deepcopy(rows)
        book = Book(rows)
        rows.clear()
        book.rows().clear()
        book.forms("nat").clear()
        self.assertEqual(book.rows(), kept)
        self.assertEqual(book.forms("nat"), list(NAT[2]))

    def test_the_looker_goes_by_a_book(self):
        book = Book(BASE + [("reasoned", "a", DRY, IDLE)])
        self.assertEqual(looked(book, (), ("fact", "a")), DRY)


class TestRefused(unittest.TestCase):

    def test_a_reason_of_another_statement(self):
        for A in (RAIN, FALSE, ("if", RAIN, FALSE), ("and", RAIN, RAIN)):
            rows = BASE + [("reasoned", "a", A, IDLE)]
            self.assertEqual(place_of(rows), 4)
            self.assertEqual(place_of(rows + [None]), 4)
            Lore(rows)

    def test_a_reason_of_none(self):
        for reason in (("fact", "none"), ("first", IDLE), ("hole", 0), ("into", "g", even(bound(0)), ("fact", "g")), ["fact", "a"], None):
            rows = BASE + [("reasoned", "b", DRY, IDLE), ("reasoned", "a", DRY, reason)]
            self.assertEqual(place_of(rows), 5, reason)
            Lore(rows)

    def test_of_anything(self):
        for thing in odd_things():
            self.assertEqual(place_of(BASE + [("reasoned", "a", DRY, thing)]), 4, repr(thing))
            self.assertEqual(place_of(BASE + [("reasoned", "a", thing, IDLE)]), 4, repr(thing))
            self.assertEqual(place_of(BASE + [("reasoned", thing, DRY, IDLE)]), NONE if thing == "x" else 4, repr(thing))
            self.assertEqual(place_of(BASE + [thing]), 4, repr(thing))
            if not isinstance(thing, list):
                self.assertIsNone(place_of(thing), repr(thing))

    def test_things_that_cannot_be_compared(self):
        class Odd:
            def __eq__(self, other):
                raise AssertionError("compared")
        self.assertEqual(place_of(BASE + [("reasoned", "a", Odd(), IDLE)]), 4)
        self.assertEqual(place_of(BASE + [("reasoned", "a", ("if", RAIN, Odd()), IDLE)]), 4)
        self.assertEqual(place_of(BASE + [("reasoned", "a", DRY, Odd())]), 4)
        self.assertEqual(place_of(BASE + [("reasoned", "a", DRY, ("into", "g", Odd(), ("fact", "g")))]), 4)

    def test_a_fact_of_a_later_row_or_of_its_own(self):
        wet = ("taken", "wet", RAIN)
        self.assertEqual(place_of(BASE + [("reasoned", "a", RAIN, ("fact", "wet")), wet]), 4)
        self.assertEqual(place_of(BASE + [("reasoned", "a", RAIN, ("fact", "a"))]), 4)
        self.assertEqual(place_of(BASE + [wet, ("reasoned", "a", RAIN, ("fact", "wet"))]), NONE)

    def test_a_function_of_a_later_row(self):
        two = ("short", "two", (), "nat", suc(suc(ZERO)))
        row = ("reasoned", "a", same(call("two"), call("two")), ("plain", call("two")))
        self.assertEqual(place_of(BASE + [row, two]), 4)
        self.assertEqual(place_of(BASE + [two, row]), NONE)

    def test_the_first_row_that_is_not_right(self):
        wrong = ("reasoned", "a", RAIN, IDLE)
        self.assertEqual(place_of(BASE + [wrong, ("open", "nat")]), 4)
        self.assertEqual(place_of(BASE + [("open", "nat"), wrong]), 4)
        self.assertEqual(place_of(BASE + [("open", "item"), wrong]), 5)


class TestNamesPutBehind(unittest.TestCase):

    def test_in_the_reason_of_an_earlier_row(self):
        rows = BASE + [("reasoned", "a", DRY, IDLE)]
        self.assertEqual(place_of(rows + [("taken", "g", RAIN)]), 5)
        self.assertEqual(place_of(rows + [("reasoned", "g", DRY, ("fact", "a"))]), 5)
        self.assertEqual(place_of(rows + [("taken", "b", RAIN), ("taken", "g", RAIN)]), 6)
        self.assertEqual(Lore(rows + [("taken", "g", RAIN)]).fact("g"), ("taken", "g", RAIN))

    def test_in_the_reason_of_a_later_row_the_later_one_is_not_right(self):
        self.assertEqual(place_of(BASE + [("taken", "g", RAIN), ("reasoned", "a", DRY, IDLE)]), 5)
        self.assertEqual(place_of(BASE + [("taken", "h", RAIN), ("reasoned", "a", DRY, IDLE)]), NONE)

    def test_in_two_reasons_or_in_its_own(self):
        self.assertEqual(place_of(BASE + [("reasoned", "a", DRY, IDLE), ("reasoned", "b", DRY, IDLE)]), NONE)
        self.assertEqual(place_of(BASE + [("reasoned", "g", DRY, IDLE)]), NONE)

    def test_by_each_word(self):
        sames = same(bound(0), bound(0))
        rows = {
            "into": (("into", "g", RAIN, ("fact", "g")), ["g"]),
            "cases": (("cases", ("sure", RAIN), "g", ("sure", RAIN), "k", ("sure", RAIN)), ["g", "k"]),
            "take": (("take", ("with", ZERO, sames, ("plain", ZERO)), "x", "g", ("plain", ZERO)), ["g"]),
            "induct": (("induct", "nat", sames, (((), (), ("plain", ZERO)), (("x",), ("g",), ("plain", suc(free("x")))))), ["g"]),
            "forms": (("forms", ZERO, (((), "g", ("plain", ZERO)), (("x",), "k", ("plain", ZERO)))), ["g", "k"]),
        }
        for word, (reason, names) in rows.items():
            told = looked(Lore(BASE), (), reason)
            for deep in (reason, ("second", ("both", ("plain", ZERO), reason)), ("each", "y", "nat", reason)):
                told = looked(Lore(BASE), (), deep)
                for name in names:
                    self.assertEqual(place_of(BASE + [("reasoned", "a", told, deep), ("taken", name, RAIN)]), 5, (word, name))
                for name in ("x", "y", "b"):
                    self.assertEqual(place_of(BASE + [("reasoned", "a", told, deep), ("taken", name, RAIN)]), NONE, (word, name))

    def test_names_of_kinds_and_functions_may_be_put_behind(self):
        rows = BASE + [("reasoned", "a", DRY, IDLE), ("open", "g"), ("given", "g", (), "g"), ("atom", "g", ())]
        self.assertEqual(place_of(rows), NONE)


class TestAllThatLoreRefuses(test_lore.LoreCase):
    """What a Lore refuses a Book refuses at the same place, and the other way about where no row is reasoned."""

    def test_rows_spoilt_by_chance(self):
        rng = random.Random(3)
        rows = [row for row in ROWS if row[0] != "reasoned"]
        pool = [name for row in rows for name in (row[1],)] + ["new", "other"] + odd_things()
        for turn in range(1500):
            spoilt = list(rows)
            for more in range(rng.randrange(1, 3)):
                at = rng.randrange(len(spoilt))
                row = list(spoilt[at]) if isinstance(spoilt[at], tuple) else [spoilt[at]]
                if row and rng.random() < 0.8:
                    row[rng.randrange(len(row))] = rng.choice(pool)
                    spoilt[at] = tuple(row)
                else:
                    spoilt.insert(at, rng.choice(rows))
            self.assertEqual(place_of(spoilt), test_lore.place_of(spoilt), spoilt)

    def test_more_than_forty(self):
        rows = [("open", a + b) for a in "abcdefg" for b in "abcdef"]
        self.assertEqual(place_of(rows[:40]), NONE)
        self.assertIsNone(place_of(rows[:41]))
        self.assertIsNone(place_of(tuple(rows[:3])))

    def test_names_that_begin_with_settle(self):
        self.assertEqual(place_of(BASE + [("reasoned", "settle", DRY, IDLE)]), 4)
        self.assertEqual(place_of(BASE + [("reasoned", "settlex", DRY, IDLE)]), 4)
        self.assertEqual(place_of(BASE + [("reasoned", "settl", DRY, IDLE)]), NONE)


if __name__ == "__main__":
    unittest.main()
