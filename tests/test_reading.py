"""Texts read as terms, statements, reasons and tactics, and what writes none (points 3 (g), 6, 24 and 25)."""

import random
import unittest

import makingtexts
from looksamples import RIGHT
from makingreasons import ROWS as REASONED_ROWS, Making
from samples import FALSE, ZERO, atom, bound, call, form, free, nested, odd_things, raised, same, suc
from tacticwright.errors import NoWords
from tacticwright.reading import read_reason, read_statement, read_tactic, read_term
from tacticwright.reasons import is_great_reason, reason_depth, reason_nodes
from tacticwright.terms import is_great, nodes
from tacticwright.writing import show_reason, show_statement, show_tactic, show_term
from texts import REASONS, STATEMENTS, TACTICS, TERMS

PAIRS = [(read_term, TERMS), (read_statement, STATEMENTS), (read_reason, REASONS), (read_tactic, TACTICS)]
KEPT = ("false", "all", "some", "and", "or")


class ReadCase(unittest.TestCase):

    def reads(self, read, text, thing):
        told = read(text)
        self.assertEqual(told, thing, text)
        self.assertIsInstance(told, tuple)

    def refuses(self, read, *texts):
        for text in texts:
            error = raised(NoWords, read, text)
            self.assertIsNotNone(error, text)
            self.assertIsNone(error.place)


class TestRead(ReadCase):

    def test_each_form(self):
        for read, pairs in PAIRS:
            for text, thing in pairs:
                self.reads(read, text, thing)

    def test_any_names_told(self):
        A = ("all", "nat", ("some", "nat", atom("p", bound(1), bound(0), free("x"))))
        self.reads(read_statement, "all a nat: some b nat: p(a, b, x)", A)
        self.reads(read_statement, "all nat nat: some abcdefgh nat: p(nat, abcdefgh, x)", A)
        self.reads(read_reason, "with(x, m: even(m), fact(h))", ("with", free("x"), atom("even", bound(0)), ("fact", "h")))
        self.reads(read_reason, "swap(fact(h), h: some y nat: p(h, y), fact(g))",
                   ("swap", ("fact", "h"), ("some", "nat", atom("p", bound(1), bound(0))), ("fact", "g")))

    def test_an_inner_one_hides_an_outer_one_and_a_free(self):
        self.reads(read_statement, "all x nat: some x nat: even(x)", ("all", "nat", ("some", "nat", atom("even", bound(0)))))
        self.reads(read_statement, "all x nat: (some x nat: even(x) and even(x))",
                   ("all", "nat", ("and", ("some", "nat", atom("even", bound(0))), atom("even", bound(0)))))
        self.reads(read_statement, "(even(x) and (all x nat: even(x) and even(x)))",
                   ("and", atom("even", free("x")), ("and", ("all", "nat", atom("even", bound(0))), atom("even", free("x")))))
        self.reads(read_statement, "all x nat: all y nat: all x nat: p(x, y)", ("all", "nat", ("all", "nat", ("all", "nat", atom("p", bound(0), bound(1))))))
        self.reads(read_reason, "induct(nat, x: all x nat: x = x, [])", ("induct", "nat", ("all", "nat", same(bound(0), bound(0))), ()))
        self.reads(read_reason, "both(swap(fact(h), x: x = y, plain(x)), plain(x))",
                   ("both", ("swap", ("fact", "h"), same(bound(0), free("y")), ("plain", free("x"))), ("plain", free("x"))))

    def test_names_of_functions_words_and_kinds_are_not_hidden(self):
        self.reads(read_statement, "all f f: f(f) = f(f())", ("all", "f", same(call("f", bound(0)), call("f", call("f")))))
        self.reads(read_statement, "all p p: p(p)", ("all", "p", atom("p", bound(0))))

    def test_numbers(self):
        for text, number in (("0", 0), ("7", 7), ("10", 10), ("120", 120), ("9999", 9999), ("12345", 12345), ("654321", 654321),
                             ("1234567", 1234567), ("12345678", 12345678), ("999999999", 999999999)):
            self.reads(read_reason, "hole(" + text + ")", ("hole", number))
            self.reads(read_reason, "inner(fact(h), " + text + ")", ("inner", ("fact", "h"), number))
        self.refuses(read_reason, *["hole(" + text + ")" for text in ("00", "01", "007", "1234567890", "0000000001", "-1", "+1", "1.0", "1_0", "x", "", " 1", "1 ",
                                                                      "1e3", "0x1", "True", "\u0661", "\u00b2")])


def spoilt(text):
    """Texts with a sign more or less than a right one."""
    made = []
    for at in range(len(text) + 1):
        made += [text[:at] + sign + text[at:] for sign in " (),[]|:=\n\t.0-"]
        made += [text[:at] + text[at + 1:]] if at < len(text) else []
    return made


class TestNoWords(ReadCase):

    def test_anything(self):
        for read, pairs in PAIRS:
            self.refuses(read, *[thing for thing in odd_things() if not isinstance(thing, str)])
            self.refuses(read, "", " ", "\n", "(", ")", "()", "[]", "1", "X1", "x.", "\u00e9", "x\u0301", "-", "_", "x_y", "x y", ", ", "abcdefghi", "Abcdefghi")
            self.refuses(read, *[thing for text, thing in pairs])

    def test_texts_of_other_things(self):
        self.refuses(read_term, *[text for text, thing in STATEMENTS if thing[0] != "atom"])
        self.refuses(read_statement, *[text for text, thing in TERMS if thing[0] != "call"])
        self.refuses(read_reason, *[text for text, thing in TERMS + STATEMENTS])
        self.refuses(read_tactic, *[text for text, thing in TERMS + STATEMENTS])
        self.refuses(read_reason, *[text for text, thing in TACTICS if text not in dict(REASONS)])
        self.refuses(read_tactic, *[text for text, thing in REASONS if text not in dict(TACTICS)])

    def test_kept_words_are_no_names(self):
        for word in KEPT:
            self.refuses(read_term, word, word + "()", "f(" + word + ")", word + "(x)")
            self.refuses(read_statement, word + " = x", "x = " + word, word + "()", word + "(x)", "all " + word + " nat: rain()", "all x " + word + ": rain()")
            self.refuses(read_reason, "fact(" + word + ")", "each(" + word + ", nat, fact(h))", "each(x, " + word + ", fact(h))", "with(x, " + word + ": rain(), fact(h))",
                         "forms(x, [" + word + " | h | fact(h)])", "forms(x, [ | " + word + " | fact(h)])", word + "(fact(h))")
            self.refuses(read_tactic, "into(" + word + ")", "apart(h, [" + word + "])", "apart(h, [a, " + word + "])", "cases(x, [ | " + word + "])", word + "()")

    def test_a_sign_more_or_less(self):
        # What is spoilt may still write something, but then it is written just so, but for the names of bounds.
        for read, show, pairs in ((read_term, show_term, TERMS), (read_statement, show_statement, STATEMENTS), (read_reason, show_reason, REASONS),
                                  (read_tactic, show_tactic, TACTICS)):
            refused = 0
            for text, thing in pairs:
                for wrong in spoilt(text):
                    try:
                        told = read(wrong)
                    except NoWords:
                        refused += 1
                        continue
                    if ":" not in wrong:
                        self.assertEqual(show(told), wrong)
                    self.reads(read, show(told), told)
            self.assertGreater(refused, 100)

    def test_texts_that_end_too_soon(self):
        for read, pairs in PAIRS[2:]:
            for text, thing in pairs:
                self.refuses(read, *[text[:at] for at in range(len(text))])

    def test_blanks_and_brackets(self):
        self.refuses(read_term, " x", "x ", "f (x)", "f( x)", "f(x )", "f(x,y)", "f(x , y)", "f(x,  y)", "f(x", "f(x))", "(x)", "Suc()", "Zero()", "f(x,)", "f(x, )",
                     "f(, x)", "f(x y)", "f[x]", "f(x)(y)", "x(", "f\n(x)", "f(x)\n", "\nx", "f(x,\ny)")

    def test_statements(self):
        self.refuses(read_statement, "x", "Zero", "x=y", "x =y", "x= y", "x  = y", "x =  y", "x == y", "x = ", " = x", "x = y = z", "(x = y)", "(rain())", "(false)",
                     "rain() and rain()", "(rain() and rain()", "rain() and rain())", "(rain() and rain() and rain())", "(rain()and rain())", "(rain() & rain())",
                     "(rain() => rain())", "(rain() if rain())", "(rain() ->rain())", "( rain() and rain())", "(rain() and rain() )", "((rain() and rain()))",
                     "all x nat rain()", "all x nat:rain()", "all x nat : rain()", "all x: rain()", "all nat: rain()", "all  x nat: rain()", "all x  nat: rain()",
                     "all x nat:  rain()", "all x nat: ", "all x nat:", "all", "all x", "some X nat: rain()", "some x Nat: rain()", "every x nat: rain()", "allx nat: rain()",
                     "rain", "rain()()", "Rain()", "p(x", "p(x))", "p(x) = ", "false()", "false = false", "not rain()", "x = y\n", "all x nat:\nrain()", "(all x nat: rain())")

    def test_at_most_four_args(self):
        self.refuses(read_term, "f(a, b, c, d, e)", "C(a, b, c, d, e)", "f(C(a, b, c, d, e))")
        self.refuses(read_statement, "p(a, b, c, d, e)", "f(a, b, c, d, e) = x")
        self.refuses(read_reason, "plain(f(a, b, c, d, e))")

    def test_reasons(self):
        self.refuses(read_reason, "fact", "fact()", "fact(h, g)", "fact(H)", "fact( h)", "fact(h )", "fact (h)", "Fact(h)", "facts(h)", "fact(fact(h))", "give(fact(h))",
                     "give(fact(h), fact(h), fact(h))", "give(fact(h),fact(h))", "give(h, fact(h))", "into(h, fact(h), false)", "at(fact(h), x = x)", "plain(x = x)",
                     "with(x, even(x), fact(h))", "with(x, x:even(x), fact(h))", "with(x, x : even(x), fact(h))", "with(x, x x: even(x), fact(h))", "swap(fact(h), false, fact(h))",
                     "induct(nat, x: false, )", "induct(nat, x: false)", "induct(nat, x: false, [ | fact(a)])", "induct(nat, x: false, [ | | fact(a)])",
                     "induct(nat, x: false, [|  | fact(a)])", "induct(nat, x: false, [ |  |  | fact(a)])", "induct(nat, x: false, [m, n |  | fact(a)])",
                     "induct(nat, x: false, [m  n |  | fact(a)])", "induct(nat, x: false, [m |  | fact(a),m |  | fact(a)])", "induct(nat, x: false, [ m |  | fact(a)])",
                     "induct(nat, x: false, (m |  | fact(a)))", "induct(nat, x: false, [m |  | ])", "induct(nat, x: false, [m |  | fact(a) ])", "induct(nat, false, [])",
                     "forms(x, [ |  | fact(a)])", "forms(x, [ | g h | fact(a)])", "forms(x, [m | h | ])", "forms(x, [m | h])", "forms(x, fact(a))", "inner(fact(h))",
                     "inner(fact(h), x)", "hole()", "hole(0, 0)", "hole(h)", "sure(x)", "left(fact(h), x)", "right(fact(h), false)", "reckon(plain(x), x = x)", "by(h)", "both()")

    def test_tactics(self):
        self.refuses(read_tactic, "both", "both( )", "both(h)", "both()()", "both() ", " both()", "into", "into()", "into(x, y)", "into(X)", "by(fact(h))", "use(h)", "use(h, x)",
                     "use(h, [x,y])", "use(h, [x y])", "use(h, [ ])", "use(h, [x)", "use(h, x])", "use(h, (x))", "use(h, [x], on)", "use(h, [x = x])", "have(h, x)", "with()",
                     "with(x, y)", "apart(h)", "apart(h, a, b)", "apart(h, [a b])", "apart(h, [a, ])", "apart(h, [A])", "turn(h, [])", "turn(h, [], off)", "turn(h, [], on, on)",
                     "turn(h, on)", "turn(h, [], On)", "cases(x)", "cases(x, [ | ])", "cases(x, [|h])", "cases(x, [h])", "cases(x, [ | h g])", "cases(x, [ |  | h])",
                     "cases(x, [m | h | g])", "induct(x, [])x", "induct(Zero, [])", "induct(x, [m])", "induct(x, [m |])", "induct(x, [| m])", "induct(x, [m |  | g])", "sure(x, h, g)",
                     "sure(x = x, h)", "then(both())", "then(both(), both(), both())", "then(both(),both())", "then([both(), both()])", "first(both(), both())", "first()",
                     "first([both() both()])", "first([both()], [both()])", "try()", "try(left(), right())", "again([left()])", "done(1)", "settle(h)", "fact(h)", "hole(0)", "run", "end",
                     "then(both(), fact(h))", "try(h)", "try(both)")


class TestAgain(ReadCase):

    def is_read_again(self, read, show, thing):
        text = show(thing)
        self.assertIsInstance(text, str)
        self.reads(read, text, thing)

    def test_drawn_terms_and_statements(self):
        rng = random.Random(2401)
        for turn in range(1500):
            self.is_read_again(read_term, show_term, makingtexts.term(rng, 0, rng.randrange(5)))
            self.is_read_again(read_statement, show_statement, makingtexts.statement(rng, 0, rng.randrange(7)))

    def test_drawn_reasons_and_tactics(self):
        rng = random.Random(2501)
        for turn in range(1500):
            self.is_read_again(read_reason, show_reason, makingtexts.reason(rng, rng.randrange(5)))
            self.is_read_again(read_tactic, show_tactic, makingtexts.tactic(rng, rng.randrange(5)))

    def test_right_reasons(self):
        for word in RIGHT:
            self.is_read_again(read_reason, show_reason, RIGHT[word][0])
        for row in REASONED_ROWS[5:]:
            self.is_read_again(read_statement, show_statement, row[2])
            self.is_read_again(read_reason, show_reason, row[3])
        rng = random.Random(2502)
        for turn in range(200):
            p, A = Making(rng).reason((), rng.randrange(6))
            self.is_read_again(read_reason, show_reason, p)
            self.is_read_again(read_statement, show_statement, A)

    def test_as_deep_and_as_great_as_may_be(self):
        for inmost in (free("x"), ZERO, call("f")):
            self.is_read_again(read_term, show_term, nested(60, inmost))
        A = atom("p", bound(0), bound(58), bound(30), free("y"))
        for turn in range(59):
            A = (("all", "some")[turn % 2], "nat", A)
        self.assertFalse(is_great(A))
        self.is_read_again(read_statement, show_statement, A)
        A = FALSE
        for turn in range(60):
            A = ("if", A, FALSE) if turn % 2 else ("and", FALSE, A)
        self.is_read_again(read_statement, show_statement, A)
        wide = FALSE
        for turn in range(9):
            wide = ("or", wide, wide)
        self.assertGreater(nodes(wide), 1000)
        self.is_read_again(read_statement, show_statement, wide)

    def test_the_deepest_and_greatest_reasons_and_tactics(self):
        p = ("left", ("plain", nested(60, ZERO)), FALSE)
        for turn in range(149):
            p = (("first", p), ("into", "h", same(free("x"), suc(ZERO)), p), ("give", ("fact", "h"), p), ("induct", "nat", FALSE, (((), ("h",), p),)))[turn % 4]
        self.assertEqual(reason_depth(p), 150)
        self.is_read_again(read_reason, show_reason, p)
        p = ("plain", form("Cons", ZERO, ZERO))
        for turn in range(11):
            p = ("both", p, p)
        self.assertFalse(is_great_reason(p))
        self.assertGreater(reason_nodes(p), 10000)
        self.is_read_again(read_reason, show_reason, p)
        a = ("by", "h")
        for turn in range(20):
            a = (("then", a, ("done",)), ("first", (("both",), a)), ("try", a), ("again", a))[turn % 4]
        self.is_read_again(read_tactic, show_tactic, a)
        self.is_read_again(read_tactic, show_tactic, ("first", (a,) * 9))

    def test_somewhat_beyond(self):
        self.is_read_again(read_term, show_term, nested(300, ZERO))
        p = ("fact", "h")
        for turn in range(400):
            p = ("first", p)
        self.assertEqual(show_reason(read_reason(show_reason(p))), show_reason(p))


if __name__ == "__main__":
    unittest.main()
