"""Running: steps, what a run comes to, witnesses (points 3 (f), 6, 9 and 23)."""

import random
import unittest

import slowlook
from looksamples import BOOK_ROWS
from makingreasons import ADDING, DOUBLING, MOVED, ROWS, Making
from samples import FALSE, ZERO, atom, bound, call, form, free, number, raised, same, suc
from tacticwright.books import Book
from tacticwright.errors import Stuck, TooGreat, TooLong
from tacticwright.looker import looked
from tacticwright.reasons import is_great_reason, reason_depth, reason_nodes, reasons_of
from tacticwright.running import ran, step, witness

BOOK = Book(ROWS)
ONE, TWO = number(1), number(2)
N, M = free("n"), free("m")
A0, A1, A2 = same(ZERO, ZERO), same(ONE, ONE), same(TWO, TWO)
P0, P1, P2 = ("plain", ZERO), ("plain", ONE), ("plain", TWO)
SOME = ("some", "nat", same(bound(0), ONE))
WITH = ("with", ONE, same(bound(0), ONE), P1)
SUM = same(call("add", ONE, ZERO), ONE)
MADE = ("into", "each", "both", "left", "right", "with", "plain", "induct")
MADE_ONES = [
    ("into", "h", A0, ("fact", "h")),
    ("each", "n", "nat", ("plain", N)),
    ("both", P0, P1),
    ("left", P0, FALSE),
    ("right", FALSE, P0),
    WITH,
    P2,
    ADDING,
]


def made_word(p):
    return p[2][0] if p[0] == "reckon" else p[0]


class RunCase(unittest.TestCase):

    def steps(self, p, book=BOOK, most=2000):
        """The reasons from p on, a step behind one another, each bearing out the same."""
        told = looked(book, (), p)
        made = [p]
        while len(made) <= most:
            come = step(book, made[-1])
            if come is None:
                break
            self.assertEqual(looked(book, (), come), told, (made[-1], come))
            made.append(come)
        return made

    def goes_to(self, p, q, book=BOOK):
        """A step leads from p to q, which bears out the same."""
        self.assertEqual(step(book, p), q)
        self.assertEqual(looked(book, (), p), looked(book, (), q))
        self.assertEqual(slowlook.looked(book.rows(), (), q), looked(book, (), q))

    def ends_as(self, p, word, book=BOOK):
        made = self.steps(p, book)
        self.assertEqual(made_word(made[-1]), word)
        self.assertEqual(ran(book, p), made[-1])
        return made[-1]

    def is_stuck(self, p, book):
        looked(book, (), p)
        error = raised(Stuck, ran, book, p)
        self.assertIsNotNone(error, p)
        self.assertIsNone(error.place)


class TestSteps(RunCase):

    def test_a_fact_of_a_reasoned_row_is_its_reason(self):
        for row in ROWS[5:]:
            self.goes_to(("fact", row[1]), row[3])
        self.goes_to(("at", ("fact", "zeros"), ONE), ("at", ADDING, ONE))

    def test_a_row_that_puts_its_own_name_behind(self):
        p = ("into", "own", A0, ("cases", ("left", ("fact", "own"), A1), "own", ("fact", "own"), "b", P0))
        rows = ROWS + [("reasoned", "own", ("if", A0, A0), p)]
        book = Book(rows)
        for q in (("fact", "own"), ("give", ("fact", "own"), P0), ("give", ("fact", "own"), ("give", ("fact", "own"), P0))):
            self.assertGreater(len(self.steps(q, book)), 1)
        self.ends_as(("give", ("fact", "own"), P0), "plain", book)
        # Names within the rows of an induct, and of a forms, are renamed, too, and stay unlike.
        base = ("reckon", same(call("add", ZERO, ZERO), ZERO), P0)
        induct = ("induct", "nat", MOVED, (((), (), base), (("settleaa",), ("adds",), (
            "reckon", same(call("add", suc(free("settleaa")), ZERO), suc(free("settleaa"))),
            ("swap", ("fact", "adds"), same(suc(call("add", free("settleaa"), ZERO)), suc(bound(0))), ("plain", suc(call("add", free("settleaa"), ZERO))))))))
        forms = ("each", "n", "nat", ("forms", N, (((), "byforms", ("plain", N)), (("m",), "byforms", ("inner", ("inner", ("reckon", same(
            suc(suc(N)), suc(suc(N))), ("swap", ("fact", "byforms"), same(suc(suc(N)), suc(suc(N))), ("plain", suc(suc(N))))), 0), 0)))))
        book = Book(ROWS + [("reasoned", "adds", ("all", "nat", MOVED), induct), ("reasoned", "byforms", ("all", "nat", same(bound(0), bound(0))), forms)])
        for k in range(4):
            self.ends_as(("at", ("fact", "adds"), number(k)), "plain", book)
            self.ends_as(("at", ("fact", "byforms"), number(k)), "plain", book)

    def test_give_of_into(self):
        self.goes_to(("give", ("into", "h", A0, ("both", ("fact", "h"), P1)), P0), ("both", P0, P1))
        self.goes_to(("give", ("into", "h", A0, ("both", ("fact", "h"), ("into", "h", A1, ("fact", "h")))), P0), ("both", P0, ("into", "h", A1, ("fact", "h"))))
        inner = ("cases", ("sure", A0), "h", ("fact", "h"), "g", ("fact", "h"))
        self.goes_to(("give", ("into", "h", A0, ("both", inner, P0)), P0), ("both", inner[:5] + (P0,), P0))

    def test_names_that_are_put_behind_again_hide_it(self):
        def given(q):
            return ("give", ("into", "h", A0, ("both", ("fact", "h"), q)), P0)
        left, right = ("left", P1, A1), ("right", A1, P1)
        zero, later = ADDING[3]
        for q, come in (
                (("cases", left, "h", ("fact", "h"), "g", ("fact", "g")), None),
                (("cases", right, "g", ("fact", "g"), "h", ("fact", "h")), None),
                (("cases", left, "g", ("fact", "h"), "h", P0), ("cases", left, "g", P0, "h", P0)),
                (("cases", left, "h", P0, "g", ("fact", "h")), ("cases", left, "h", P0, "g", P0)),
                (("take", WITH, "n", "h", ("with", N, same(bound(0), ONE), ("fact", "h"))), None),
                (("take", ("with", ZERO, same(bound(0), ZERO), ("fact", "h")), "n", "h", P1), ("take", ("with", ZERO, same(bound(0), ZERO), P0), "n", "h", P1)),
                (("into", "h", A1, ("fact", "h")), None),
                (("into", "g", A1, ("fact", "h")), ("into", "g", A1, P0)),
                (("forms", ZERO, (((), "h", ("plain", ZERO)), (("m",), "g", ("fact", "h")))), ("forms", ZERO, (((), "h", P0), (("m",), "g", P0)))),
                (("induct", "nat", MOVED, (zero, (("m",), ("h",), later[2][:2] + (("swap", ("fact", "h")) + later[2][2][2:],)))), None)):
            self.goes_to(given(q), ("both", P0, q if come is None else come))

    def test_things_that_are_put_behind_again_hide_it(self):
        def given(q):
            return ("at", ("each", "n", "nat", ("both", ("plain", N), q)), TWO)
        for q, come in (
                (("each", "n", "nat", ("plain", N)), None),
                (("each", "m", "nat", ("plain", N)), ("each", "m", "nat", P2)),
                (("take", WITH, "n", "h", ("with", N, same(bound(0), ONE), ("fact", "h"))), None),
                (("take", WITH, "m", "h", ("with", N, same(bound(0), N), ("plain", N))), ("take", WITH, "m", "h", ("with", TWO, same(bound(0), TWO), P2))),
                (("forms", ONE, (((), "h", P0), (("n",), "h", ("first", ("both", P0, ("plain", N)))))), None),
                (("forms", N, (((), "h", P0), (("m",), "h", P0))), ("forms", TWO, (((), "h", P0), (("m",), "h", P0)))),
                (("induct", "nat", A0, (((), (), P0), (("n",), ("h",), ("first", ("both", P0, ("plain", N)))))), None),
                (("induct", "nat", same(N, N), (((), (), ("plain", N)), (("m",), ("h",), ("plain", N)))),
                 ("induct", "nat", same(TWO, TWO), (((), (), P2), (("m",), ("h",), P2))))):
            self.goes_to(given(q), ("both", P2, q if come is None else come))

    def test_at_of_each(self):
        self.goes_to(("at", ("each", "n", "nat", ("plain", suc(N))), TWO), ("plain", number(3)))
        within = ("each", "n", "nat", ("plain", N))
        self.goes_to(("at", ("each", "n", "nat", ("both", ("plain", N), within)), TWO), ("both", P2, within))
        p = ("into", "h", same(N, ONE), ("with", N, same(bound(0), ONE), ("fact", "h")))
        self.goes_to(("at", ("each", "n", "nat", p), TWO), ("into", "h", same(TWO, ONE), ("with", TWO, same(bound(0), ONE), ("fact", "h"))))
        rest = ("first", ("both", P0, ("plain", N)))
        take = ("take", ("with", N, same(bound(0), bound(0)), ("plain", N)), "n", "h", rest)
        self.goes_to(("at", ("each", "n", "nat", ("both", ("plain", N), take)), TWO),
                     ("both", P2, ("take", ("with", TWO, same(bound(0), bound(0)), P2), "n", "h", rest)))
        induct = ("induct", "nat", same(M, M), (((), (), ("plain", M)), (("n",), ("h",), ("first", ("both", ("plain", M), ("plain", N))))))
        p = ("at", ("each", "m", "nat", ("at", ("each", "n", "nat", ("both", ("plain", N), induct)), TWO)), ONE)
        self.assertEqual(self.ends_as(p, "both")[2][2], same(ONE, ONE))
        self.assertEqual(self.ends_as(p, "both")[2][3][1], (("n",), ("h",), ("first", ("both", P1, ("plain", N)))))

    def test_at_of_induct(self):
        zero, later = ADDING[3]
        self.goes_to(("at", ADDING, ZERO), zero[2])
        made = ("reckon", same(call("add", suc(ONE), ZERO), suc(ONE)), (
            "swap", ("at", ADDING, ONE), same(suc(call("add", ONE, ZERO)), suc(bound(0))), ("plain", suc(call("add", ONE, ZERO)))))
        self.goes_to(("at", ADDING, TWO), made)
        t = call("add", ONE, ONE)
        come = step(BOOK, ("at", ADDING, t))
        self.assertEqual(looked(BOOK, (), come), same(call("add", t, ZERO), t))
        self.ends_as(("at", ADDING, t), "plain")

    def test_first_and_second_of_both(self):
        self.goes_to(("first", ("both", P0, P1)), P0)
        self.goes_to(("second", ("both", P0, P1)), P1)

    def test_cases_of_left_and_right(self):
        q, r = ("both", ("fact", "h"), P2), ("both", P0, ("second", ("both", ("fact", "g"), P2)))
        self.goes_to(("cases", ("left", P0, A1), "h", q, "g", r), ("both", P0, P2))
        self.goes_to(("cases", ("right", A0, P1), "h", q, "g", r), ("both", P0, ("second", ("both", P1, P2))))

    def test_take_of_with(self):
        p = ("take", WITH, "n", "h", ("with", suc(N), ("some", "nat", same(bound(1), suc(bound(0)))), (
            "with", N, same(suc(N), suc(bound(0))), ("plain", suc(N)))))
        self.goes_to(p, ("with", suc(ONE), ("some", "nat", same(bound(1), suc(bound(0)))), ("with", ONE, same(suc(ONE), suc(bound(0))), ("plain", TWO))))
        self.goes_to(("take", WITH, "n", "h", ("with", N, same(bound(0), ONE), ("fact", "h"))), WITH)

    def test_swap_is_its_q_reckoned(self):
        p = ("swap", ("reckon", SUM, P1), ("and", same(bound(0), ONE), A0), ("both", ("reckon", SUM, P1), P0))
        come = step(BOOK, p)
        self.assertEqual(looked(BOOK, (), come), ("and", same(ONE, ONE), A0))
        self.assertEqual(self.ends_as(p, "both")[0], "reckon")
        self.ends_as(("swap", P1, same(bound(0), ONE), P1), "plain")

    def test_inner(self):
        pair = form("Cons", ONE, form("Nil"))
        self.goes_to(("inner", ("plain", pair), 0), P1)
        self.goes_to(("inner", ("plain", pair), 1), ("plain", form("Nil")))
        told = same(form("Cons", call("add", ONE, ZERO), form("Nil")), pair)
        p = ("inner", ("reckon", told, ("plain", pair)), 0)
        self.assertEqual(looked(BOOK, (), step(BOOK, p)), SUM)
        self.ends_as(p, "plain")

    def test_forms_by_its_term_reckoned(self):
        for t, k in ((ZERO, 0), (call("add", ZERO, ZERO), 0), (TWO, 1), (call("add", ONE, ONE), 1)):
            rows = (((), "h", ("left", ("with", t, same(t, bound(0)), ("plain", t)), FALSE)),
                    (("m",), "h", ("left", ("with", suc(M), same(t, bound(0)), ("fact", "h")), FALSE)))
            p = ("forms", t, rows)
            come = step(BOOK, p)
            self.assertEqual(looked(BOOK, (), come), looked(BOOK, (), p))
            self.assertEqual(come[0], "left")
            made = self.ends_as(p, "left")
            self.assertEqual(witness(BOOK, made[1]), number(0 if k == 0 else 2))

    def test_sure_is_left_or_right_by_reckoning(self):
        so = [A0, SUM, ("if", FALSE, FALSE), ("if", A0, SUM), ("and", A0, A1), ("or", FALSE, A0), ("or", same(ZERO, ONE), A0),
              ("if", same(ONE, TWO), FALSE), ("if", ("and", A0, same(ONE, TWO)), same(ONE, ZERO)), ("if", ("if", A0, FALSE), FALSE),
              ("if", ("or", FALSE, same(TWO, ONE)), FALSE), ("and", ("if", A0, A1), ("or", ("and", A0, FALSE), A2))]
        for A in so:
            self.assertEqual(self.ends_as(("sure", A), "left")[2], ("if", A, FALSE))
            self.assertEqual(len(self.steps(("sure", A))), 2)
        items = form("Cons", ONE, form("Cons", TWO, form("Nil")))
        for A in [("if", A, FALSE) for A in so] + [FALSE, same(ZERO, ONE), same(TWO, ONE), same(items, form("Cons", ONE, form("Nil"))), ("and", A0, FALSE),
                                                   same(items, form("Cons", ONE, form("Cons", call("add", ONE, TWO), form("Nil")))),
                                                   ("or", FALSE, ("if", A0, same(ONE, ZERO))), ("if", A0, ("and", FALSE, A0))]:
            self.assertEqual(self.ends_as(("sure", A), "right")[1], A)
            self.assertEqual(len(self.steps(("sure", A))), 2)

    def test_what_is_taken_apart_is_run_first(self):
        for p in (("first", ("first", ("both", ("both", P0, P1), P2))), ("give", ("first", ("both", ("into", "h", A0, ("fact", "h")), P0)), P0),
                  ("take", ("second", ("both", P0, WITH)), "n", "h", P0), ("swap", ("first", ("both", P1, P0)), same(bound(0), ONE), P1),
                  ("inner", ("first", ("both", P1, P0)), 0), ("cases", ("sure", A0), "h", ("fact", "h"), "g", P0)):
            made = self.steps(p)
            self.assertEqual(len(made), 3, made)
            self.assertEqual(made_word(made[-1]), "plain")

    def test_what_is_within_a_made_one_stays(self):
        for p in (("both", ("first", ("both", P0, P1)), ("fact", "zeros")), ("into", "h", A0, ("first", ("both", P0, P1))),
                  ("left", ("sure", A0), FALSE), ("with", call("add", ONE, ONE), same(bound(0), TWO), ("reckon", same(call("add", ONE, ONE), TWO), P2))):
            self.assertIsNone(step(BOOK, p))
            self.assertEqual(ran(BOOK, p), p)


class TestReckon(RunCase):

    def test_a_reckon_ahead_of_what_is_taken_apart(self):
        two = call("add", ONE, ONE)
        pairs = [
            (("give", ("reckon", ("if", SUM, same(two, TWO)), ("into", "h", A1, P2)), ("reckon", SUM, P1)), "plain"),
            (("at", ("reckon", ("all", "nat", same(bound(0), call("add", ZERO, bound(0)))), ("each", "n", "nat", ("plain", N))), TWO), "plain"),
            (("at", ("reckon", ("all", "nat", same(call("add", call("add", ZERO, bound(0)), ZERO), bound(0))), ADDING), TWO), "plain"),
            (("first", ("reckon", ("and", SUM, A0), ("both", P1, P0))), "plain"),
            (("second", ("reckon", ("and", A0, SUM), ("both", P0, P1))), "plain"),
            (("cases", ("reckon", ("or", SUM, A0), ("left", P1, A0)), "h", ("fact", "h"), "g", ("reckon", SUM, P1)), "plain"),
            (("cases", ("reckon", ("or", A0, SUM), ("right", A0, P1)), "h", ("reckon", SUM, P1), "g", ("fact", "g")), "plain"),
            (("take", ("reckon", ("some", "nat", same(bound(0), call("add", ONE, ZERO))), WITH), "n", "h",
              ("with", N, same(bound(0), call("add", ONE, ZERO)), ("fact", "h"))), "with"),
            (("swap", ("reckon", SUM, P1), same(bound(0), ONE), ("reckon", SUM, P1)), "plain"),
            (("inner", ("reckon", same(suc(call("add", ONE, ZERO)), TWO), P2), 0), "plain"),
        ]
        for p, word in pairs:
            self.ends_as(p, word)

    def test_a_reckon_within_a_reckon(self):
        self.goes_to(("reckon", SUM, ("reckon", A1, P1)), ("reckon", SUM, P1))
        self.goes_to(("first", ("both", ("reckon", SUM, ("reckon", A1, P1)), P0)), ("reckon", SUM, ("reckon", A1, P1)))
        p = ("reckon", SUM, ("reckon", A1, ("reckon", SUM, ("first", ("both", ("reckon", A1, P1), P0)))))
        self.assertEqual(self.ends_as(p, "plain"), ("reckon", SUM, P1))

    def test_each_goes_on_within_one(self):
        self.goes_to(("reckon", A0, ("first", ("both", P0, P1))), ("reckon", A0, P0))
        self.goes_to(("reckon", ("all", "nat", MOVED), ("fact", "zeros")), ("reckon", ("all", "nat", MOVED), ADDING))


class TestEnd(RunCase):

    def test_none_for_each_made_one(self):
        self.assertEqual([p[0] for p in MADE_ONES], list(MADE))
        for p in MADE_ONES:
            told = looked(BOOK, (), p)
            self.assertIsNone(step(BOOK, p))
            self.assertIsNone(step(BOOK, ("reckon", told, p)))
            self.assertEqual(ran(BOOK, p), p)
            self.assertEqual(ran(BOOK, ("reckon", told, p)), ("reckon", told, p))
            self.assertEqual(step(BOOK, ("reckon", told, ("reckon", told, p))), ("reckon", told, p))

    def test_witnesses(self):
        for k in range(0, 30, 3):
            for t in (number(k), call("add", ZERO, number(k))):
                p = ("at", ("fact", "double"), t)
                self.assertEqual(witness(BOOK, p), number(2 * k))
                self.assertEqual(witness(BOOK, ("at", DOUBLING, t)), number(2 * k))
                self.assertEqual(witness(BOOK, ("reckon", looked(BOOK, (), p), p)), number(2 * k))
        self.assertEqual(witness(BOOK, ("with", call("twice", TWO), same(bound(0), number(4)), ("reckon", same(call("twice", TWO), number(4)), ("plain", number(4))))),
                         number(4))

    def test_the_rest_of_a_witness_is_reasoned(self):
        for k in (0, 1, 2, 7):
            made = self.ends_as(("at", ("fact", "double"), number(k)), "with")
            made = made[2] if made[0] == "reckon" else made
            self.assertEqual(looked(BOOK, (), made[3]), same(made[1], call("twice", number(k))))

    def test_an_or_is_left_just_where_it_is_so(self):
        for k in range(6):
            self.ends_as(("at", ("fact", "zeroed"), number(k)), "right" if k else "left")
            for m in range(4):
                self.ends_as(("sure", same(call("add", number(m), TWO), number(k))), "left" if m + 2 == k else "right")
        made = self.ends_as(("at", ("fact", "zeroed"), number(4)), "right")
        self.assertEqual(witness(BOOK, (made[2] if made[0] == "reckon" else made)[2]), number(3))


OPEN_ROWS = BOOK_ROWS + [("reasoned", "plains", ("all", "item", same(bound(0), bound(0))), ("each", "i", "item", ("plain", free("i"))))]


class TestStuck(RunCase):

    def test_a_taken_row(self):
        book = Book(OPEN_ROWS)
        for p in (("fact", "rains"), ("at", ("fact", "evens"), ZERO), ("first", ("fact", "both")), ("second", ("fact", "both")),
                  ("cases", ("fact", "either"), "h", P0, "g", P0), ("take", ("fact", "there"), "n", "h", P0), ("give", ("fact", "hasty"), ("fact", "rains")),
                  ("swap", ("fact", "lie"), same(bound(0), bound(0)), P0), ("unlike", ("fact", "lie")), ("never", ("unlike", ("fact", "lie")), A0),
                  ("reckon", atom("rain"), ("fact", "rains")), ("first", ("both", ("fact", "rains"), P0)), ("never", ("give", ("fact", "hasty"), ("fact", "rains")), A0),
                  ("inner", ("never", ("unlike", ("fact", "lie")), same(ONE, TWO)), 0), ("never", ("reckon", FALSE, ("unlike", ("fact", "lie"))), A0)):
            self.is_stuck(p, book)

    def test_a_word(self):
        book = Book(OPEN_ROWS)
        for A in (atom("rain"), ("and", A0, atom("even", ZERO)), ("if", atom("rain"), FALSE), ("or", FALSE, atom("rain"))):
            self.is_stuck(("sure", A), book)

    def test_a_given_function_and_an_open_kind(self):
        book = Book(OPEN_ROWS)
        spot = call("spot")
        self.is_stuck(("sure", same(spot, call("pick", spot, ZERO))), book)
        self.is_stuck(("at", ADDING, call("size", spot)), book)
        self.is_stuck(("at", ADDING, call("add", call("size", spot), ZERO)), book)
        self.is_stuck(("forms", call("size", spot), (((), "h", P0), (("m",), "h", P0))), book)
        self.is_stuck(("sure", same(call("size", spot), ZERO)), book)
        self.is_stuck(("sure", same(ZERO, call("size", spot))), book)
        self.is_stuck(("sure", same(suc(ZERO), suc(call("size", spot)))), book)
        self.is_stuck(("sure", same(form("Pair", spot, ZERO), form("Pair", call("pick", spot, ZERO), ZERO))), book)
        self.is_stuck(("sure", same(form("Cons", spot, form("Nil")), form("Cons", call("pick", spot, ONE), form("Nil")))), book)

    def test_they_need_not_make_it_so(self):
        book = Book(OPEN_ROWS)
        spot = call("spot")
        self.ends_as(("sure", same(spot, spot)), "left", book)
        self.ends_as(("sure", same(suc(call("size", spot)), ZERO)), "right", book)
        self.ends_as(("sure", same(form("Pair", spot, ZERO), form("Pair", call("pick", spot, ZERO), suc(ZERO)))), "right", book)
        self.ends_as(("at", ("fact", "plains"), spot), "plain", book)
        self.ends_as(("at", ("induct", "nat", A0, (((), (), P0), (("m",), ("h",), P0))), suc(call("size", spot))), "plain", book)
        self.ends_as(("give", ("into", "h", atom("rain"), P0), ("fact", "rains")), "plain", book)


# Of 2 ** n steps for the number n, and with no term beyond the bounds.
SLOW = ("rule", "slow", ("nat", "nat"), "nat", (bound(0), call("slow", bound(0), call("slow", bound(0), bound(1)))))


class TestBounds(RunCase):

    def long(self, many, p=P0):
        """A reason that goes just so many steps, and comes to p."""
        left = many
        one = ("at", ("fact", "double"), number(29))
        each, come = 1, step(BOOK, one)
        while come is not None:
            each, come = each + 1, step(BOOK, come)
        while left >= each:
            p = ("take", one, "n", "h", p)
            left -= each
        while left > 0:
            p = ("first", ("both", p, P0))
            left -= 1
        return p

    def test_more_than_a_thousand_steps(self):
        p = self.long(1000)
        made, come, many = p, step(BOOK, p), 0
        while come is not None:
            made, come, many = come, step(BOOK, come), many + 1
        self.assertEqual(many, 1000)
        self.assertEqual(ran(BOOK, p), made)
        error = raised(TooLong, ran, BOOK, self.long(1001))
        self.assertIsNotNone(error)
        self.assertIsNotNone(raised(TooLong, witness, BOOK, self.long(1001, WITH)))

    def test_a_reason_beyond_the_nodes(self):
        big = P0
        for turn in range(9):
            big = ("both", big, big)
        told = looked(BOOK, (), big)

        def using(many):
            p = ("fact", "h")
            for turn in range(many - 1):
                p = ("both", p, ("fact", "h"))
            return p
        size = reason_nodes(big)
        most = 20000 // (size + 1)
        for many, so in ((most, True), (most + 1, False)):
            p = ("give", ("into", "h", told, using(many)), big)
            self.assertFalse(is_great_reason(p))
            self.assertEqual(many * size + many - 1 <= 20000, so)
            if so:
                self.assertEqual(step(BOOK, p)[0], "both")
            else:
                self.assertIsNotNone(raised(TooGreat, ran, BOOK, p))

    def test_a_reason_beyond_the_depth(self):
        def deep(many, inmost):
            for turn in range(many):
                inmost = ("left", inmost, FALSE)
            return inmost
        for many, so in ((90, True), (91, False)):
            q = deep(60, P0)
            p = ("give", ("into", "h", looked(BOOK, (), q), deep(many, ("fact", "h"))), q)
            if so:
                self.assertEqual(reason_depth(ran(BOOK, p)), 150)
            else:
                self.assertIsNotNone(raised(TooGreat, ran, BOOK, p))

    def test_reckoning_beyond_its_bounds(self):
        book = Book(ROWS + [SLOW])
        rows = (((), "h", P0), (("m",), "h", P0))
        long, great = call("slow", number(12), ZERO), call("twice", call("twice", call("twice", number(20))))
        for t, kind in ((long, TooLong), (great, TooGreat)):
            for p in (("forms", t, rows), ("at", ("induct", "nat", A0, (((), (), P0), (("m",), ("h",), P0))), t), ("sure", same(t, ZERO))):
                looked(book, (), p)
                self.assertIsNotNone(raised(kind, ran, book, p), p)
            self.assertIsNotNone(raised(kind, witness, book, ("with", t, A0, P0)))
            self.assertEqual(ran(book, ("with", t, A0, P0)), ("with", t, A0, P0))

    def test_a_step_that_would_need_reckoning_beyond_its_bounds(self):
        book = Book(ROWS + [SLOW])
        long = call("slow", number(12), ZERO)
        rest = same(long, long)
        both = ("both", ("reckon", SUM, P1), ("plain", long))
        p = ("swap", ("reckon", SUM, P1), ("and", same(bound(0), ONE), rest), both)
        self.assertEqual(looked(book, (), p), ("and", A1, rest))
        self.assertIsNotNone(raised(TooLong, step, book, p))
        p = ("swap", P1, ("and", same(call("add", ONE, ZERO), bound(0)), rest), both)
        self.assertEqual(self.ends_as(p, "both", book), both)
        induct = ("induct", "nat", ("and", same(bound(0), bound(0)), rest), (
            ((), (), ("both", P0, ("plain", long))), (("m",), ("h",), ("both", ("plain", suc(M)), ("plain", long)))))
        self.ends_as(("at", induct, TWO), "both", book)
        looked(book, (), ("at", induct, call("add", ONE, ONE)))
        self.assertIsNotNone(raised(TooLong, step, book, ("at", induct, call("add", ONE, ONE))))
        p = ("at", ("reckon", ("all", "nat", same(bound(0), call("add", ZERO, bound(0)))), ("each", "n", "nat", ("plain", N))), long)
        looked(book, (), p)
        self.assertIsNotNone(raised(TooLong, step, book, p))
        told = ("some", "nat", same(bound(0), call("add", ZERO, bound(0))))
        p = ("take", ("reckon", told, ("with", long, same(bound(0), bound(0)), ("plain", long))), "n", "h", P0)
        looked(book, (), p)
        self.assertIsNotNone(raised(TooLong, step, book, p))

    def test_a_swap_whose_q_alone_goes_beyond_reckoning(self):
        book = Book(ROWS + [SLOW])
        half = call("slow", number(9), ZERO)
        body = same(call("add", bound(0), half), call("add", bound(0), half))
        p = ("swap", ("reckon", same(half, ZERO), P0), body, ("plain", call("add", half, half)))
        self.assertEqual(looked(book, (), p), same(call("add", ZERO, half), call("add", ZERO, half)))
        self.assertIsNotNone(raised(TooLong, step, book, p))
        less = call("slow", number(3), ZERO)
        body = same(call("add", bound(0), less), call("add", bound(0), less))
        self.ends_as(("swap", ("reckon", same(less, ZERO), P0), body, ("plain", call("add", less, less))), "plain", book)

    def test_a_term_put_into_a_reckon_within(self):
        book = Book(ROWS + [SLOW, ("short", "nil", ("nat",), "nat", ZERO)])
        long, great = call("slow", N, ZERO), call("twice", call("twice", call("twice", N)))
        for t, k, kind in ((long, 12, TooLong), (great, 20, TooGreat)):
            # Beyond the bounds goes what the reckon tells, or what stands within it alone.
            for q in (("reckon", same(t, call("add", ZERO, t)), ("plain", t)), ("reckon", A0, ("plain", call("nil", t)))):
                body = ("into", "g", A1, ("first", ("both", P0, q)))
                some = ("with", number(k), same(bound(0), bound(0)), ("plain", number(k)))
                later = ("into", "g", A1, ("first", ("both", P0, ("at", ("each", "n", "nat", q), free("m")))))
                for p in (("at", ("each", "n", "nat", body), number(k)), ("take", some, "n", "h", body),
                          ("forms", suc(number(k)), (((), "h", ("into", "g", A1, P0)), (("n",), "h", body))),
                          ("at", ("induct", "nat", ("if", A1, A0), (((), (), ("into", "g", A1, P0)), (("n",), ("h",), body))), suc(number(k)))):
                    self.assertEqual(looked(book, (), p), ("if", A1, A0))
                    self.assertIsNotNone(raised(kind, step, book, p), p)
                    self.assertIsNotNone(raised(kind, ran, book, p), p)
                # Small numbers go, and what isn't put in yet is no fault.
                self.ends_as(("at", ("each", "n", "nat", body), TWO), "into", book)
                self.ends_as(("at", ("each", "m", "nat", later), TWO), "into", book)

    def test_deep_reasons(self):
        p = P0
        for turn in range(75):
            p = ("first", ("both", p, P0))
        self.assertEqual(reason_depth(p), 150)
        self.assertEqual(ran(BOOK, p), P0)
        A = A0
        for turn in range(28):
            A = ("if", A, A0) if turn % 2 else ("or", A0, A)
        self.ends_as(("sure", A), "left")


class TestMany(RunCase):

    def test_reasons_by_chance(self):
        rng = random.Random(2301)
        seen = {}
        for turn in range(400):
            p, A = Making(rng).reason((), rng.randrange(7))
            self.assertEqual(looked(BOOK, (), p), A)
            made = self.steps(p)
            for word in {part[0] for part in reasons_of(p)}:
                seen[word] = seen.get(word, 0) + 1
            word = made_word(made[-1])
            self.assertIn(word, MADE)
            self.assertEqual(ran(BOOK, p), made[-1])
            self.assertEqual(slowlook.looked(ROWS, (), made[-1]), A)
            if A[0] == "some":
                t = witness(BOOK, p)
                rest = made[-1][2] if made[-1][0] == "reckon" else made[-1]
                told = looked(BOOK, (), ("with", t, A[2], ("reckon", slowlook.opened(A[2], t), rest[3])))
                self.assertEqual(told, A)
            if A[0] == "or":
                self.assertIn(word, ("left", "right"))
        for word in ("fact", "give", "at", "first", "second", "cases", "take", "swap", "inner", "forms", "sure", "reckon"):
            self.assertGreater(seen.get(word, 0), 5, word)

    def test_nothing_is_stuck_without_what_is_open(self):
        rng = random.Random(2302)
        for turn in range(500):
            p, A = Making(rng).reason((), rng.randrange(3, 8))
            try:
                self.assertIn(made_word(ran(BOOK, p)), MADE)
            except (TooLong, TooGreat):
                pass


if __name__ == "__main__":
    unittest.main()
