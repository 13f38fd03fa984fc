"""Papers: lines that make a book, claims, and what is told of them (point 26)."""

import unittest

from samples import odd_things, raised
from tacticwright.books import Book
from tacticwright.errors import NoTactic, NoWords
from tacticwright.papers import answered
from tacticwright.reading import read_statement, read_tactic
from tacticwright.reasons import reason_nodes
from tacticwright.running import witness
from tacticwright.works import Work
from tacticwright.writing import show_term

HEAD = [
    "kind nat = Zero Suc(nat)",
    "open item",
    "kind list = Nil Cons(item, list)",
    "given pick(item, nat) item",
    "given spot() item",
    "given size(item) nat",
    "word even(nat)",
    "word rain()",
    "rule add(nat, nat) nat",
    "| Zero y = y",
    "| Suc(x) y = Suc(add(x, y))",
    "rule len(list) nat",
    "| Nil = Zero",
    "| Cons(i, l) = Suc(len(l))",
    "short twice(n nat) nat = add(n, n)",
    "short one() nat = Suc(Zero)",
    "short second(i item, j item) item = j",
    "taken rains: rain()",
    "taken evens: all x nat: even(twice(x))",
]
ROWS = [
    ("kind", "nat", (("Zero", ()), ("Suc", ("nat",)))),
    ("open", "item"),
    ("kind", "list", (("Nil", ()), ("Cons", ("item", "list")))),
    ("given", "pick", ("item", "nat"), "item"),
    ("given", "spot", (), "item"),
    ("given", "size", ("item",), "nat"),
    ("atom", "even", ("nat",)),
    ("atom", "rain", ()),
    ("rule", "add", ("nat", "nat"), "nat", (("bound", 0), ("form", "Suc", (("call", "add", (("bound", 0), ("bound", 1))),)))),
    ("rule", "len", ("list",), "nat", (("form", "Zero", ()), ("form", "Suc", (("call", "len", (("bound", 1),)),)))),
    ("short", "twice", ("nat",), "nat", ("call", "add", (("bound", 0), ("bound", 0)))),
    ("short", "one", (), "nat", ("form", "Suc", (("form", "Zero", ()),))),
    ("short", "second", ("item", "item"), "item", ("bound", 1)),
    ("taken", "rains", ("atom", "rain", ())),
    ("taken", "evens", ("all", "nat", ("atom", "even", (("call", "twice", (("bound", 0),)),)))),
]
ZEROS = ["claim zeros: all x nat: add(x, Zero) = x", "  into(n)", "  induct(n, [ | , m | h])", "  plain()", "  reckon()", "  turn(h, [], on)", "  plain()", "end"]
ZERO_TACTICS = [line[2:] for line in ZEROS[1:-1]]


def paper(*lines):
    return "\n".join(lines)


def worked(rows, statement, tactics):
    """The work at a statement behind these tactics."""
    work = Work(Book(rows), read_statement(statement))
    for tactic in tactics:
        work.do(read_tactic(tactic))
    return work


class PaperCase(unittest.TestCase):

    def tells(self, lines, *answers):
        self.assertEqual(answered(paper(*lines)), paper(*answers))

    def refuses(self, place, *lines):
        error = raised(NoWords, answered, paper(*lines))
        self.assertIsNotNone(error, lines)
        self.assertEqual(error.place, place, lines)

    def refuses_line(self, *lines):
        """Each of these lines isn't right behind the head, and with a right one behind it, too."""
        for line in lines:
            self.refuses(len(HEAD) + 1, *HEAD, line)
            self.refuses(len(HEAD) + 1, *HEAD, line, "open last")
            self.refuses(len(HEAD) + 1, *HEAD, line, "")


class TestLines(PaperCase):

    def test_each_sort_of_line(self):
        self.tells(HEAD)
        # Each row is asked by a claim that goes only where it is as it should be.
        claims = [
            ("all x nat: all y nat: add(Suc(x), y) = Suc(add(x, y))", ["into(x)", "into(y)", "plain()"]),
            ("all x nat: add(Zero, x) = x", ["into(x)", "plain()"]),
            ("all i item: all l list: len(Cons(i, l)) = Suc(len(l))", ["into(i)", "into(l)", "plain()"]),
            ("len(Nil) = Zero", ["plain()"]),
            ("all x nat: twice(x) = add(x, x)", ["into(x)", "plain()"]),
            ("one() = Suc(Zero)", ["plain()"]),
            ("all x item: all y item: second(x, y) = y", ["into(x)", "into(y)", "plain()"]),
            ("rain()", ["by(rains)"]),
            ("even(twice(Zero))", ["use(evens, [Zero])"]),
            ("pick(spot(), size(spot())) = pick(spot(), size(spot()))", ["plain()"]),
        ]
        lines, answers, rows = list(HEAD), [], list(ROWS)
        for k, (statement, tactics) in enumerate(claims):
            name = "c" + "abcdefghij"[k]
            lines += ["claim " + name + ": " + statement] + ["  " + tactic for tactic in tactics] + ["end"]
            work = worked(ROWS, statement, tactics)
            self.assertEqual(work.goals(), [])
            answers.append(name + " reasoned " + str(reason_nodes(work.reason())))
        self.tells(lines, *answers)

    def test_a_paper_of_one_line_and_of_no_claim(self):
        self.assertEqual(answered("open item"), "")
        self.assertEqual(answered("kind one = One"), "")
        self.tells(["kind b = True False", "kind four = A(b, b, b, b) B(four) C D(four, b)"])

    def test_rules_of_more_args(self):
        lines = ["kind nat = Zero Suc(nat)", "kind tree = Leaf(nat) Fork(tree, nat, tree)", "rule put(tree, nat, nat) nat", "| Leaf(k) a b = k",
                 "| Fork(l, n, r) a b = put(l, n, put(r, b, a))",
                 "claim c: put(Fork(Leaf(Zero), Suc(Zero), Leaf(Zero)), Zero, Zero) = Zero", "  plain()", "end"]
        self.assertTrue(answered(paper(*lines)).startswith("c reasoned "))
        lines[4] = "| Fork(l, n, r) n b = put(l, n, b)"
        self.refuses(5, *lines)

    def test_wrong_lines(self):
        self.refuses_line("", " ", "kind", "kind ", "kind k", "kind k =", "kind k = ", "kind k = C()", "kind k = C(nat,nat)", "kind k = C  D", "kind k = C D ", "kind k = c",
                          "kind K = C", "kind k = C(Nat)", "kind k =C", "kind  k = C", " kind k = C", "kind k = C, D", "kind k = C (nat)", "open", "open ", "open K", "open a b", "open a ",
                          "given f", "given f nat", "given f()", "given f() ", "given f()nat", "given f(nat) nat nat", "given f(nat,nat) nat", "given F() nat", "given f(x nat) nat",
                          "word", "word p", "word p nat", "word p(nat) nat", "word p(nat,nat)", "word P()", "short f() nat", "short f() nat =", "short f() nat = ", "short f(nat) nat = Zero",
                          "short f(x nat) = x", "short f(x, y) nat = x", "short f(x nat y nat) nat = x", "short f(x nat,y nat) nat = x", "short f(x nat) nat =  x",
                          "short f(x nat, x nat) nat = x", "taken", "taken h", "taken h:", "taken h: ", "taken h:rain()", "taken h : rain()", "taken H: rain()", "taken h: rain() ",
                          "taken h: rain", "rains: rain()", "run", "end", "  plain()", "atom p()", "reasoned h: rain()", "| Zero = Zero", "claims c: rain()", "open a\r", "\topen a", "# open")

    def test_rows_that_make_no_book(self):
        self.refuses_line("kind nat = C", "open nat", "open item", "kind k = Zero", "kind k = C C", "kind k = C(k)", "kind k = C(none)", "kind k = A B C D E", "kind k = C(nat, nat, nat, nat, nat)",
                          "given pick() item", "given add(nat) nat", "given f(none) nat", "given f() none", "given f(nat, nat, nat, nat, nat) nat", "word rain()", "word p(none)",
                          "short twice() nat = Zero", "short f() nat = Nil", "short f() nat = x", "short f(x nat) nat = y", "short f(x nat) nat = f(x)", "short f(x nat) item = x",
                          "short f() nat = none()", "taken rains: rain()", "taken settle: rain()", "taken settlers: rain()", "taken h: x = x", "taken h: even(Nil)", "taken h: all x none: rain()",
                          "taken h: none()", "taken h: Zero = Nil", "claim rains: rain()", "claim settlea: rain()", "claim h: x = x", "claim h: even(spot())", "claim h: some x none: rain()")

    def test_at_most_forty_rows(self):
        names = [a + b for a in "abcdef" for b in "ghijklmnopq"]
        rows = ["open " + name for name in names]
        self.assertEqual(answered(paper(*rows[:40])), "")
        self.refuses(41, *rows[:41])
        self.refuses(41, *rows[:40], "claim c: false", "end")
        self.tells(rows[:39] + ["claim c: false", "end", "open last"], "c open 1")
        self.refuses(44, *rows[:39], "claim c: (false -> false)", "  into(h)", "  by(h)", "end", "open last")

    def test_rules(self):
        n = len(HEAD)
        self.tells(HEAD + ["rule f(nat) nat", "| Zero = Zero", "| Suc(x) = f(x)"])
        self.refuses(n + 1, *HEAD, "rule f(nat) nat")
        self.refuses(n + 1, *HEAD, "rule f(nat) nat", "| Zero = Zero")
        self.refuses(n + 1, *HEAD, "rule f(nat) nat", "| Zero = Zero", "open last")
        self.refuses(n + 1, *HEAD, "rule f() nat", "| Zero = Zero", "| Suc(x) = f(x)")
        self.refuses(n + 1, *HEAD, "rule f(item) nat", "| Zero = Zero", "| Suc(x) = f(x)")
        self.refuses(n + 1, *HEAD, "rule add(nat) nat", "| Zero = Zero", "| Suc(x) = add(x)")
        self.refuses(n + 1, *HEAD, "rule f(nat) none", "| Zero = Zero", "| Suc(x) = f(x)")
        self.refuses(n + 1, *HEAD, "rule f(nat, none) nat", "| Zero y = Zero", "| Suc(x) y = f(x, y)")
        self.refuses(n + 1, *HEAD, "rule add(nat) nat", "| Zero", "| Suc(x) = add(x)")
        self.refuses(n + 1, *HEAD, "rule f(nat, none) nat", "| None = Zero")
        # Its terms make no book: a rule's place is its first line's.
        self.refuses(n + 1, *HEAD, "rule f(nat) nat", "| Zero = Nil", "| Suc(x) = f(x)")
        self.refuses(n + 1, *HEAD, "rule f(nat) nat", "| Zero = Zero", "| Suc(x) = f(Suc(x))")
        self.refuses(n + 1, *HEAD, "rule f(nat) nat", "| Zero = Zero", "| Suc(x) = y")
        # Lines of other forms, of more or fewer names, and one too many make no row either.
        for line in ("| Suc = Zero", "| Suc(x) y = f(x)", "| Suc(x, y) = f(x)", "| Zero = Zero", "| Nil = Zero", "| None(x) = f(x)"):
            self.refuses(n + 1, *HEAD, "rule f(nat) nat", "| Zero = Zero", line)
            self.refuses(n + 1, *HEAD, "rule f(nat) nat", "| Zero = Zero", line, "open last")
        self.refuses(n + 1, *HEAD, "rule f(nat) nat", "| Zero = Zero", "| Suc(x) = f(x)", "| Suc(x) = f(x)")
        self.refuses(n + 1, *HEAD, "rule f(nat) nat", "| Suc(x) = f(x)", "| Zero = Zero")
        # A line that is none by itself has its own place.
        for line in ("|Suc(x) = f(x)", "| Suc(x)= f(x)", "| Suc(x) = ", "| Suc (x) = f(x)", "| Suc() = Zero", "| suc(x) = f(x)", "|  Suc(x) = f(x)", "| Suc(x) = f(x) ", "| Suc(X) = Zero",
                     "| Suc(x)  = f(x)", "|", "| ", "| Suc(x) = false", "| Suc(x) : f(x)", "| Suc(x, x) = f(x)"):
            self.refuses(n + 3, *HEAD, "rule f(nat) nat", "| Zero = Zero", line)
            self.refuses(n + 3, *HEAD, "rule f(nat) nat", "| Zero = Zero", line, "open last")
        self.refuses(n + 3, *HEAD, "rule f(nat, nat) nat", "| Zero y = y", "| Suc(x) x = x")


class TestClaims(PaperCase):

    def test_reasoned(self):
        many = reason_nodes(worked(ROWS, "all x nat: add(x, Zero) = x", ZERO_TACTICS).reason())
        self.tells(HEAD + ZEROS, "zeros reasoned " + str(many))
        self.assertEqual(many, 53)

    def test_open(self):
        for k, left in enumerate([1, 1, 2, 1, 1, 1]):
            self.tells(HEAD + ZEROS[:k + 1] + ["end"], "zeros open " + str(left))
            self.tells(HEAD + ZEROS[:k + 1] + ["run"], "zeros open " + str(left))

    def test_fails(self):
        for k in range(6):
            for end in ("run", "end"):
                self.tells(HEAD + ZEROS[:k + 1] + ["  by(none)", "  done()", end], "zeros fails " + str(k + 1))
        # Where no goal is left a tactic fails, too.
        self.tells(HEAD + ZEROS[:7] + ["  try(done())", "end"], "zeros fails 7")

    def test_several_claims(self):
        self.tells(HEAD + ZEROS + ["claim c: false", "end", "claim d: rain()", "  by(rains)", "run"] + ["claim e: rain()", "  left()", "end"],
                   "zeros reasoned 53", "c open 1", "d reasoned 1 stuck", "e fails 1")

    def test_a_reasoned_one_stands_from_then_on(self):
        self.tells(HEAD + ZEROS + ["claim c: add(Suc(Zero), Zero) = Suc(Zero)", "  use(zeros, [Suc(Zero)])", "end", "open k", "claim d: all x nat: add(x, Zero) = x", "  by(zeros)", "run"],
                   "zeros reasoned 53", "c reasoned 4", "d reasoned 1 stands")
        self.refuses(len(HEAD) + 9, *HEAD, *ZEROS, "taken zeros: rain()")
        self.refuses(len(HEAD) + 9, *HEAD, *ZEROS, *ZEROS)

    def test_one_that_is_not_reasoned_stands_nowhere(self):
        for lines in (["claim c: rain()", "end"], ["claim c: rain()", "  left()", "run"]):
            told = "c open 1" if len(lines) == 2 else "c fails 1"
            self.tells(HEAD + lines + ["claim d: rain()", "  by(c)", "end"], told, "d fails 1")
            at = len(HEAD) + len(lines) + 1
            self.refuses(at, *HEAD, *lines, "taken c: rain()")
            self.refuses(at, *HEAD, *lines, "claim c: rain()", "  by(rains)", "end")
            self.tells(HEAD + lines + ["open c", "word c(c)", "given c() c"], told)
            # A fact within a reason may bear its name.
            self.tells(HEAD + lines + ["claim d: (rain() -> rain())", "  into(c)", "  by(c)", "end"], told, "d reasoned 3")

    def test_names_put_behind_in_reasons(self):
        lines = HEAD + ["claim c: (rain() -> rain())", "  into(h)", "  by(h)", "end"]
        self.tells(lines, "c reasoned 3")
        self.refuses(len(lines) + 1, *lines, "taken h: rain()")
        self.refuses(len(lines) + 1, *lines, "claim h: rain()", "  by(rains)", "end")
        self.tells(lines + ["taken g: rain()"], "c reasoned 3")
        self.tells(HEAD + ["claim c: (rain() -> rain())", "  into(h)", "end", "taken h: rain()"], "c open 1")
        # No new name is that of a fact of the book, but that of the claim itself is none yet.
        self.tells(HEAD + ["claim c: (rain() -> rain())", "  into(rains)", "end"], "c fails 1")
        self.tells(HEAD + ["claim c: (rain() -> rain())", "  into(c)", "  by(c)", "run", "claim d: (rain() -> rain())", "  by(c)", "run"], "c reasoned 3 stands", "d reasoned 1 stands")

    def test_it_is_looked_at_ahead_of_its_tactics(self):
        n = len(HEAD)
        self.refuses(n + 1, *HEAD, "claim c: x = x", "  none", "end")
        self.refuses(n + 1, *HEAD, "claim rains: rain()")
        self.refuses(n + 3, *HEAD, "claim c: rain()", "  by(none)", "  by none", "end")
        self.refuses(n + 2, *HEAD, "claim c: rain()", "  none()", "end")

    def test_a_claim_without_an_end(self):
        n = len(HEAD)
        self.refuses(n + 2, *HEAD, "claim c: rain()")
        self.refuses(n + 3, *HEAD, "claim c: rain()", "  by(rains)")
        self.refuses(n + 3, *HEAD, "claim c: rain()", "  by(rains)", "")
        self.refuses(n + 3, *HEAD, "claim c: rain()", "  by(rains)", "open k", "end")
        self.refuses(n + 4, *HEAD, "claim c: rain()", "  by(none)", "  by(none)")

    def test_lines_of_tactics(self):
        n = len(HEAD)
        for line in ("by(rains)", " by(rains)", "   by(rains)", "  by(rains) ", "  ", "   ", "", "\tby(rains)", "  run", "  end", "run ", "end ", " end", "End", "  by(rains)\r", "..by(rains)", "\t by(rains)", " \tby(rains)",
                     "byby(rains)"):
            self.refuses(n + 2, *HEAD, "claim c: rain()", line, "end")

    def test_settle_and_rows_of_tactics(self):
        self.tells(HEAD + ["claim c: all x item: (x = x and (rain() -> rain()))", "  then(into(x), then(both(), settle()))", "end"],
                   "c reasoned " + str(reason_nodes(worked(ROWS, "all x item: (x = x and (rain() -> rain()))", ["then(into(x), then(both(), settle()))"]).reason())))


class TestRun(PaperCase):

    def told(self, statement, tactics, end="run", head=HEAD, rows=ROWS):
        """What is told behind the number of a claim that is reasoned."""
        text = answered(paper(*head, "claim c: " + statement, *["  " + tactic for tactic in tactics], end))
        start = "c reasoned " + str(reason_nodes(worked(rows, statement, tactics).reason()))
        self.assertEqual(text[:len(start)], start)
        return text[len(start):]

    def test_the_term_of_with_reckoned(self):
        self.assertEqual(self.told("some x nat: x = twice(Suc(Zero))", ["with(twice(one()))", "plain()"]), " Suc(Suc(Zero))")
        self.assertEqual(self.told("some x nat: x = twice(Suc(Zero))", ["with(twice(one()))", "plain()"], "end"), "")
        self.assertEqual(self.told("some x item: x = x", ["with(second(spot(), pick(spot(), one())))", "plain()"]), " pick(spot(), Suc(Zero))")
        self.assertEqual(self.told("some x list: len(x) = Zero", ["with(Nil)", "plain()"]), " Nil")
        statement = "some x nat: x = x"
        tactics = ["have(h, some x nat: x = Suc(x))", "with(Zero)", "plain()"]
        self.assertEqual(self.told(statement, ["have(h, some x nat: x = twice(one()))", "with(add(one(), one()))", "plain()", "apart(h, [m, g])", "with(Suc(m))", "plain()"]),
                         " Suc(Suc(Suc(Zero)))")
        self.tells(HEAD + ["claim c: " + statement] + ["  " + tactic for tactic in tactics] + ["run"], "c fails 3")

    def test_by_an_earlier_claim(self):
        head = HEAD + ["claim d: all x nat: some y nat: y = Suc(x)", "  into(n)", "  with(Suc(n))", "  plain()", "end"]
        work = worked(ROWS, "all x nat: some y nat: y = Suc(x)", ["into(n)", "with(Suc(n))", "plain()"])
        rows = ROWS + [("reasoned", "d", read_statement("all x nat: some y nat: y = Suc(x)"), work.reason())]
        text = answered(paper(*head, "claim c: some y nat: y = Suc(twice(one()))", "  use(d, [twice(one())])", "run"))
        book = Book(rows)
        p = worked(rows, "some y nat: y = Suc(twice(one()))", ["use(d, [twice(one())])"]).reason()
        self.assertEqual(text.split("\n")[1], "c reasoned " + str(reason_nodes(p)) + " " + show_term(witness(book, p)))
        self.assertEqual(text.split("\n")[1].split(" ")[-1], "Suc(Suc(Suc(Zero)))")

    def test_left_and_right(self):
        self.assertEqual(self.told("(Zero = Zero or false)", ["left()", "plain()"]), " left")
        self.assertEqual(self.told("(false or Zero = Zero)", ["right()", "plain()"]), " right")
        sides = ["sure(%s, h, g)", "left()", "by(h)", "right()", "by(g)"]
        for A, side in (("add(one(), one()) = twice(one())", "left"), ("one() = Zero", "right")):
            self.assertEqual(self.told("(%s or (%s -> false))" % (A, A), [sides[0] % A] + sides[1:]), " " + side)

    def test_stands(self):
        self.assertEqual(self.told("all x nat: x = x", ["into(n)", "plain()"]), " stands")
        self.assertEqual(self.told("Zero = Zero", ["plain()"]), " stands")
        self.assertEqual(self.told("(rain() -> rain())", ["into(h)", "by(h)"]), " stands")
        self.assertEqual(self.told("(rain() and rain())", ["both()", "by(rains)", "by(rains)"]), " stands")
        self.assertEqual(self.told("all x nat: add(x, Zero) = x", ZERO_TACTICS), " stands")

    def test_stuck(self):
        self.assertEqual(self.told("rain()", ["by(rains)"]), " stuck")
        self.assertEqual(self.told("(rain() or (rain() -> false))", ["sure(rain(), h, g)", "left()", "by(h)", "right()", "by(g)"]), " stuck")
        self.assertEqual(self.told("(even(Zero) -> even(Zero))", ["into(h)", "by(h)"]), " stands")
        # Reckoning beyond its bounds.
        great = "twice(twice(twice(twice(twice(twice(twice(one())))))))"
        self.assertEqual(self.told("some x nat: rain()", ["with(" + great + ")", "by(rains)"]), " stuck")
        slow = ["rule slow(nat, nat) nat", "| Zero y = y", "| Suc(x) y = slow(x, slow(x, y))"]
        row = ("rule", "slow", ("nat", "nat"), "nat", (("bound", 0), ("call", "slow", (("bound", 0), ("call", "slow", (("bound", 0), ("bound", 1)))))))
        twelve = "Suc(" * 12 + "Zero" + ")" * 12
        self.assertEqual(self.told("some x nat: rain()", ["with(slow(" + twelve + ", Zero))", "by(rains)"], "run", HEAD + slow, ROWS + [row]), " stuck")


HALF = """kind nat = Zero Suc(nat)
rule add(nat, nat) nat
| Zero y = y
| Suc(x) y = Suc(add(x, y))
short twice(n nat) nat = add(n, n)
claim later: all x nat: all y nat: add(x, Suc(y)) = Suc(add(x, y))
  into(n)
  induct(n, [ | , m | h])
  then(into(k), plain())
  into(k)
  reckon()
  turn(h, [k], on)
  plain()
run
claim shift: all x nat: twice(Suc(x)) = Suc(Suc(twice(x)))
  into(n)
  reckon()
  turn(later, [n, n], on)
  plain()
run
claim half: all x nat: some y nat: (x = twice(y) or x = Suc(twice(y)))
  into(n)
  induct(n, [ | , m | h])
  then(with(Zero), then(left(), plain()))
  apart(h, [k, g])
  apart(g, [a, b])
  then(with(k), then(right(), then(turn(a, [], on), plain())))
  then(with(Suc(k)), then(left(), then(turn(shift, [k], on), then(turn(b, [], on), plain()))))
run
claim which: all x nat: (some y nat: x = twice(y) or some y nat: x = Suc(twice(y)))
  into(n)
  have(h, some y nat: (n = twice(y) or n = Suc(twice(y))))
  use(half, [n])
  apart(h, [k, g])
  apart(g, [a, b])
  then(left(), then(with(k), by(a)))
  then(right(), then(with(k), by(b)))
run"""


def numeral(k):
    return "Suc(" * k + "Zero" + ")" * k


class TestHalves(PaperCase):
    """A paper from kinds to witnesses: each number's half, and whether it is even."""

    def test_halves(self):
        lines, wanted = [HALF], []
        for k in (0, 1, 2, 3, 6, 7, 12, 25):
            name = "abcdefghijklmnopqrstuvwxyz"[k]
            lines += ["claim h" + name + name + ": some y nat: (%s = twice(y) or %s = Suc(twice(y)))" % (numeral(k), numeral(k)), "  use(half, [" + numeral(k) + "])", "run"]
            lines += ["claim w" + name + name + ": (some y nat: %s = twice(y) or some y nat: %s = Suc(twice(y)))" % (numeral(k), numeral(k)), "  use(which, [" + numeral(k) + "])", "run"]
            wanted += [numeral(k // 2), "right" if k % 2 else "left"]
        told = answered(paper(*lines)).split("\n")
        self.assertEqual([line.split(" ")[-1] for line in told], ["stands"] * 4 + wanted)


class TestNoPaper(PaperCase):

    def test_no_text(self):
        for thing in odd_things():
            if not isinstance(thing, str):
                error = raised(NoWords, answered, thing)
                self.assertIsNotNone(error, thing)
                self.assertIsNone(error.place)

    def test_the_empty_text_and_empty_lines(self):
        self.refuses(1, "")
        self.refuses(1, "", "open item")
        self.refuses(2, "open item", "")
        self.refuses(2, "open item", "", "open k")
        self.refuses(len(HEAD) + 1, *HEAD, "")
        self.refuses(len(HEAD) + len(ZEROS) + 1, *HEAD, *ZEROS, "")

    def test_the_first_line_that_is_not_right(self):
        for k in range(len(HEAD)):
            lines = list(HEAD)
            lines[k] = "no line"
            # A rule that lacks a form's line makes no book, and its place is its first line's.
            self.refuses({9: 9, 10: 9, 12: 12, 13: 12}.get(k, k + 1), *lines)
        self.refuses(2, "open a", "open a", "nope", "")

    def test_the_same_again(self):
        text = paper(*HEAD, *ZEROS)
        self.assertEqual(answered(text), answered(text))

    def test_a_failing_one_is_no_refusal(self):
        work = Work(Book(ROWS), read_statement("rain()"))
        self.assertIsNotNone(raised(NoTactic, work.do, ("left",)))
        self.tells(HEAD + ["claim c: rain()", "  left()", "end"], "c fails 1")


if __name__ == "__main__":
    unittest.main()
