"""Terms, statements, reasons and tactics written as texts (points 24 and 25)."""

import unittest

from samples import FALSE, atom, bound, free, same
from tacticwright.reasons import REASON_PARTS
from tacticwright.tacticparts import TACTIC_PARTS
from tacticwright.writing import show_reason, show_statement, show_tactic, show_term
from texts import REASONS, STATEMENTS, TACTICS, TERMS

LETTERS = "abcdefghijklmnopqrstuvwxyz"
BEHIND = [""] + list(LETTERS) + [a + b for a in LETTERS for b in LETTERS]
ORDER = [first + rest for rest in BEHIND for first in "xyz"]


def bounds(many, inmost):
    """The statement inmost within so many alls."""
    for turn in range(many):
        inmost = ("all", "nat", inmost)
    return inmost


class TestShow(unittest.TestCase):

    def test_each_form(self):
        for show, pairs in ((show_term, TERMS), (show_statement, STATEMENTS), (show_reason, REASONS), (show_tactic, TACTICS)):
            for text, thing in pairs:
                self.assertEqual(show(thing), text)

    def test_each_word_is_there(self):
        self.assertEqual({thing[0] for text, thing in REASONS}, set(REASON_PARTS))
        self.assertEqual({thing[0] for text, thing in TACTICS}, set(TACTIC_PARTS))

    def test_the_order_of_the_names(self):
        self.assertEqual(ORDER[:8] + ORDER[78:86], ["x", "y", "z", "xa", "ya", "za", "xb", "yb", "xz", "yz", "zz", "xaa", "yaa", "zaa", "xab", "yab"])
        for many in range(1, 59):
            A = bounds(many, atom("p", bound(0), bound(many - 1)))
            wanted = "".join("all " + name + " nat: " for name in ORDER[:many])
            self.assertEqual(show_statement(A), wanted + "p(" + ORDER[many - 1] + ", x)")

    def test_frees_take_names_out(self):
        for many in range(100):
            frees = FALSE
            for name in ORDER[:many]:
                frees = ("or", same(free(name), free(name)), frees)
            text = show_statement(("and", frees, ("some", "nat", atom("even", bound(0)))))
            self.assertTrue(text.endswith("some " + ORDER[many] + " nat: even(" + ORDER[many] + "))"), text)

    def test_a_name_around_is_not_taken_where_it_is_not_used(self):
        self.assertEqual(show_statement(bounds(3, FALSE)), "all x nat: all y nat: all z nat: false")
        self.assertEqual(show_reason(("swap", ("fact", "h"), bounds(2, atom("p", bound(2), free("y"))), ("fact", "g"))),
                         "swap(fact(h), x: all z nat: all xa nat: p(x, y), fact(g))")

    def test_each_statement_has_names_of_its_own(self):
        p = ("into", "h", same(free("x"), free("x")), ("left", ("fact", "h"), ("all", "nat", atom("p", bound(0), free("y")))))
        self.assertEqual(show_reason(p), "into(h, x = x, left(fact(h), all x nat: p(x, y)))")


if __name__ == "__main__":
    unittest.main()
