"""The plain tactics: the goals that come, their reasons, and where they fail (points 16 and 18)."""

import unittest

from looksamples import BOOK_ROWS, CONTEXT, EVENS, I, L, NEAR, RAIN, X, Y, even, no
from meeting import MeetCase
from samples import FALSE, NIL, ZERO, atom, bound, call, form, free, number, odd_things, same, suc
from tacticwright.lore import Lore

M = free("m")
# Names that are no new ones: of things, facts, the book's facts, of none, and kept for settling.
OLD = ["x", "a", "rains", "evens", "X", "", "all", "toolongnm", "settle", "settlea", "settled", None, 3, True, ("m",)]
GREAT = even(call("twice", number(40)))


def fact(h, A):
    return ("fact", h, A)


def thing(x, K):
    return ("thing", x, K)


def behind(*entries, context=CONTEXT):
    return context + entries


class TestInto(MeetCase):

    def test_if(self):
        self.meets(("if", RAIN, NEAR), ("into", "h"), (behind(fact("h", RAIN)), NEAR))
        self.meets(no(EVENS), ("into", "h"), (behind(fact("h", EVENS)), FALSE))
        self.meets(("if", RAIN, EVENS), ("into", "h"), ((fact("h", RAIN),), EVENS), context=())

    def test_all(self):
        self.meets(EVENS, ("into", "m"), (behind(thing("m", "nat")), even(M)))
        G = ("all", "nat", ("some", "item", ("if", even(bound(1)), same(bound(0), I))))
        self.meets(G, ("into", "m"), (behind(thing("m", "nat")), ("some", "item", ("if", even(M), same(bound(0), I)))))
        self.meets(EVENS, ("into", "x"), ((thing("x", "nat"),), even(X)), context=())

    def test_fails_of_others(self):
        for G in (RAIN, FALSE, same(X, Y), ("and", RAIN, RAIN), ("or", RAIN, RAIN), ("some", "nat", RAIN)):
            self.fails(G, ("into", "h"))

    def test_names_that_only_look_alike_are_new(self):
        for name in ("settling", "settl", "asettle", "xx", "rain", "nat", "add"):
            self.meets(EVENS, ("into", name), (behind(thing(name, "nat")), even(free(name))))

    def test_fails_where_the_name_is_not_new(self):
        for name in OLD:
            self.fails(EVENS, ("into", name))
            self.fails(("if", RAIN, RAIN), ("into", name))


class TestBy(MeetCase):

    def test_a_fact_of_the_context_or_the_book(self):
        self.meets(even(X), ("by", "b"))
        self.meets(FALSE, ("by", "f"))
        self.meets(RAIN, ("by", "rains"))
        self.meets(EVENS, ("by", "evens"), context=())

    def test_fails(self):
        self.fails(even(X), ("by", "a"), ("by", "none"), ("by", "x"), ("by", "rains"), ("by", "z"))
        self.fails(even(call("add", ZERO, X)), ("by", "b"))
        self.fails(even(Y), ("by", "u"), ("by", "c"), ("by", "evens"))


class TestUse(MeetCase):

    def test_without_terms(self):
        self.meets(even(X), ("use", "b", ()))
        self.meets(even(Y), ("use", "c", ()), even(X))
        self.meets(FALSE, ("use", "hasty", ()), RAIN)
        self.meets(("if", even(X), even(Y)), ("use", "c", ()))

    def test_with_terms(self):
        self.meets(even(suc(X)), ("use", "evens", (suc(X),)))
        self.meets(even(suc(Y)), ("use", "r", (Y,)), even(Y))
        self.meets(same(X, suc(Y)), ("use", "sames", (X, suc(Y))), even(X), RAIN)
        self.meets(("if", RAIN, same(X, Y)), ("use", "sames", (X, Y)), even(X))
        self.meets(("if", even(X), ("if", RAIN, same(X, Y))), ("use", "sames", (X, Y)))
        told = ("all", "nat", ("if", even(X), ("if", RAIN, same(X, bound(0)))))
        self.meets(told, ("use", "sames", (X,)))
        self.meets(EVENS, ("use", "evens", ()))

    def test_as_few_as_may_be_ahead(self):
        context = (fact("h", ("if", RAIN, ("if", FALSE, RAIN))), fact("g", ("if", FALSE, ("if", RAIN, ("if", FALSE, ("if", RAIN, EVENS))))))
        self.meets(("if", FALSE, RAIN), ("use", "h", ()), RAIN, context=context)
        self.meets(RAIN, ("use", "h", ()), RAIN, FALSE, context=context)
        self.meets(("if", RAIN, EVENS), ("use", "g", ()), FALSE, RAIN, FALSE, context=context)
        self.meets(EVENS, ("use", "g", ()), FALSE, RAIN, FALSE, RAIN, context=context)
        loop = (fact("h", ("if", ("if", RAIN, RAIN), ("if", RAIN, RAIN))),)
        self.meets(("if", RAIN, RAIN), ("use", "h", ()), ("if", RAIN, RAIN), context=loop)
        self.meets(RAIN, ("use", "h", ()), ("if", RAIN, RAIN), RAIN, context=loop)

    def test_fails(self):
        self.fails(even(Y), ("use", "none", ()), ("use", "x", ()), ("use", "b", ()), ("use", "evens", ()), ("use", "d", ()))
        self.fails(even(Y), ("use", "evens", (X,)), ("use", "evens", (I,)), ("use", "evens", (M,)), ("use", "evens", (bound(0),)),
                   ("use", "evens", (Y, Y)), ("use", "c", (Y,)), ("use", "evens", [Y]), ("use", "evens", Y), ("use", "evens", (None,)),
                   ("use", "evens", (RAIN,)), ("use", "evens", (call("none"),)), ("use", "evens", ("y",)))
        self.fails(same(X, Y), ("use", "sames", (X,)), ("use", "sames", (Y, X)), ("use", "sames", (X, Y, Y)), ("use", "sames", ()))
        self.fails(even(X), ("use", "w", (X,)))
        self.fails(same(X, X), ("use", "w", (X,)))


class TestHave(MeetCase):

    def test_have(self):
        self.meets(RAIN, ("have", "h", even(Y)), even(Y), (behind(fact("h", even(Y))), RAIN))
        self.meets(RAIN, ("have", "h", EVENS), ((), EVENS), ((fact("h", EVENS),), RAIN), context=())

    def test_fails(self):
        for name in OLD:
            self.fails(RAIN, ("have", name, even(Y)))
        for A in (even(M), even(I), even(bound(0)), ("all", "none", RAIN), X, None, [RAIN]):
            self.fails(RAIN, ("have", "h", A))


class TestBack(MeetCase):

    def test_a_fact(self):
        self.meets(RAIN, ("back", "b"), ("if", even(X), RAIN))
        self.meets(even(Y), ("back", "u"), ("if", ("all", "nat", same(bound(0), X)), even(Y)))

    def test_a_thing(self):
        self.meets(even(X), ("back", "x"), EVENS)
        self.meets(("all", "nat", same(bound(0), X)), ("back", "x"), ("all", "nat", ("all", "nat", same(bound(0), bound(1)))))
        self.meets(RAIN, ("back", "i"), ("all", "item", RAIN))

    def test_fails_of_what_is_not_the_contexts(self):
        self.fails(even(X), ("back", "rains"), ("back", "none"), ("back", "X"), ("back", None), ("back", ("x",)))
        self.fails(EVENS, ("back", "x"), context=())


class TestBothLeftRight(MeetCase):

    def test_both(self):
        self.meets(("and", RAIN, even(X)), ("both",), RAIN, even(X))
        for G in (RAIN, ("or", RAIN, RAIN), ("if", RAIN, RAIN), EVENS, FALSE, same(X, Y)):
            self.fails(G, ("both",))

    def test_left_and_right(self):
        self.meets(("or", RAIN, even(X)), ("left",), RAIN)
        self.meets(("or", RAIN, even(X)), ("right",), even(X))
        for G in (RAIN, ("and", RAIN, RAIN), ("if", RAIN, RAIN), EVENS, FALSE, same(X, Y)):
            self.fails(G, ("left",), ("right",))


class TestWith(MeetCase):

    def test_with(self):
        self.meets(("some", "nat", even(bound(0))), ("with", suc(X)), even(suc(X)))
        self.meets(("some", "nat", ("all", "item", same(bound(1), X))), ("with", Y), ("all", "item", same(Y, X)))
        self.meets(("some", "item", RAIN), ("with", call("spot")), RAIN, context=())

    def test_fails(self):
        G = ("some", "nat", even(bound(0)))
        self.fails(G, ("with", I), ("with", M), ("with", bound(0)), ("with", call("none")), ("with", RAIN), ("with", "x"), ("with", None))
        for other in (RAIN, EVENS, ("and", RAIN, RAIN)):
            self.fails(other, ("with", X))


class TestApart(MeetCase):

    def test_and(self):
        self.meets(NEAR, ("apart", "d", ("h", "g")), (behind(fact("h", even(X)), fact("g", RAIN)), NEAR))
        self.meets(NEAR, ("apart", "both", ("h", "g")), (behind(fact("h", RAIN), fact("g", EVENS)), NEAR))

    def test_some(self):
        self.meets(NEAR, ("apart", "w", ("m", "h")), (behind(thing("m", "nat"), fact("h", same(M, X))), NEAR))
        near = atom("near", M, M)
        self.meets(RAIN, ("apart", "there", ("m", "h")), ((thing("m", "item"), fact("h", near)), RAIN), context=())

    def test_or(self):
        self.meets(NEAR, ("apart", "e", ("h", "g")), (behind(fact("h", even(X))), NEAR), (behind(fact("g", even(Y))), NEAR))
        self.meets(EVENS, ("apart", "either", ("h", "g")), ((fact("h", RAIN),), EVENS), ((fact("g", FALSE),), EVENS), context=())

    def test_false(self):
        self.meets(NEAR, ("apart", "f", ()))
        self.meets(EVENS, ("apart", "f", ()))

    def test_fails_of_others(self):
        for h in ("a", "b", "c", "u", "k", "rains", "evens", "hasty", "none", "x", "X", None):
            for names in ((), ("h",), ("h", "g"), ("h", "g", "m")):
                self.fails(NEAR, ("apart", h, names))

    def test_fails_where_the_names_are_more_or_fewer(self):
        for h in ("d", "w", "e", "both", "there", "either"):
            self.fails(NEAR, ("apart", h, ()), ("apart", h, ("h",)), ("apart", h, ("h", "g", "m")), ("apart", h, ["h", "g"]),
                       ("apart", h, "hg"), ("apart", h, None))
        self.fails(NEAR, ("apart", "f", ("h",)), ("apart", "f", []), ("apart", "f", ("h", "g")))

    def test_fails_where_the_names_are_not_new(self):
        for h in ("d", "w", "e"):
            for name in OLD:
                self.fails(NEAR, ("apart", h, (name, "g")), ("apart", h, ("h", name)))
            self.fails(NEAR, ("apart", h, ("h", "h")))

    def test_it_is_not_reckoned(self):
        row = ("fact", "h", ("and", RAIN, even(call("add", ZERO, ZERO))))
        self.meets(NEAR, ("apart", "h", ("g", "m")),
                   (behind(row, fact("g", RAIN), fact("m", even(call("add", ZERO, ZERO)))), NEAR), context=behind(row))


class TestPlainAndReckon(MeetCase):

    def test_plain(self):
        self.meets(same(X, X), ("plain",))
        self.meets(same(call("add", number(2), X), suc(suc(X))), ("plain",))
        self.meets(same(suc(suc(X)), call("add", number(2), X)), ("plain",))
        self.meets(same(call("twice", number(2)), call("add", number(1), number(3))), ("plain",), context=())

    def test_plain_fails(self):
        self.fails(same(X, Y), ("plain",))
        self.fails(same(call("add", X, ZERO), X), ("plain",))
        for G in (RAIN, even(X), ("and", same(X, X), same(X, X)), EVENS, FALSE):
            self.fails(G, ("plain",))

    def test_plain_fails_where_reckoning_goes_beyond_its_bounds(self):
        great = call("twice", number(40))
        self.fails(same(great, great), ("plain",))
        self.fails(same(X, great), ("plain",))

    def test_reckon(self):
        self.meets(even(call("add", suc(ZERO), X)), ("reckon",), even(suc(X)))
        G = ("all", "nat", ("if", even(call("twice", suc(bound(0)))), same(call("add", ZERO, X), bound(0))))
        self.meets(G, ("reckon",), ("all", "nat", ("if", even(suc(call("add", bound(0), suc(bound(0))))), same(X, bound(0)))))

    def test_reckon_fails_where_it_is_reckoned(self):
        for G in (RAIN, even(X), EVENS, FALSE, same(call("add", X, ZERO), X), even(call("add", X, suc(Y)))):
            self.fails(G, ("reckon",))

    def test_reckon_fails_beyond_the_bounds(self):
        self.fails(GREAT, ("reckon",))
        self.fails(("and", even(call("add", ZERO, X)), GREAT), ("reckon",))
        lore = Lore(BOOK_ROWS + [("rule", "count", ("nat",), "nat", (ZERO, call("add", call("count", bound(0)), call("count", bound(0)))))])
        self.meets(even(call("count", number(9))), ("reckon",), even(ZERO), lore=lore)
        self.fails(even(call("count", number(11))), ("reckon",), lore=lore)

    def test_tidy(self):
        row = fact("h", ("if", even(call("add", suc(ZERO), X)), RAIN))
        told = ("if", even(suc(X)), RAIN)
        self.meets(NEAR, ("tidy", "h", "g"), (behind(row, fact("g", told)), NEAR), context=behind(row))
        lore = Lore(BOOK_ROWS + [("taken", "sum", even(call("add", ZERO, ZERO)))])
        self.meets(RAIN, ("tidy", "sum", "g"), ((fact("g", even(ZERO)),), RAIN), context=(), lore=lore)

    def test_tidy_fails(self):
        row = fact("h", even(call("add", ZERO, X)))
        for name in OLD + ["h"]:
            self.fails(NEAR, ("tidy", "h", name), context=behind(row))
        for h in ("b", "a", "none", "x", "evens", "rains", None, "X"):
            self.fails(NEAR, ("tidy", h, "g"), context=behind(row))
        self.fails(NEAR, ("tidy", "h", "g"), context=behind(fact("h", GREAT)))


class TestUnlikeAndInner(MeetCase):

    def test_unlike(self):
        self.meets(NEAR, ("unlike", "n"))
        self.meets(EVENS, ("unlike", "lie"), context=())
        for t, u in ((ZERO, suc(X)), (suc(X), ZERO), (call("add", ZERO, ZERO), call("add", suc(X), Y)), (NIL, form("Cons", I, L))):
            self.meets(NEAR, ("unlike", "h"), context=behind(fact("h", same(t, u))))

    def test_unlike_fails(self):
        for h in ("a", "b", "k", "d", "f", "p", "none", "x", "evens", None):
            self.fails(NEAR, ("unlike", h))
        for t, u in ((ZERO, ZERO), (ZERO, X), (X, ZERO), (ZERO, call("add", X, suc(Y))), (call("add", ZERO, ZERO), ZERO)):
            self.fails(NEAR, ("unlike", "h"), context=behind(fact("h", same(t, u))))
        self.fails(NEAR, ("unlike", "h"), context=behind(fact("h", same(ZERO, call("twice", number(40))))))

    def test_inner(self):
        self.meets(NEAR, ("inner", "k", ("h",)), (behind(fact("h", same(X, Y))), NEAR))
        self.meets(NEAR, ("inner", "p", ("h", "g")), (behind(fact("h", same(I, call("spot"))), fact("g", same(L, NIL))), NEAR))
        row = fact("h", same(call("add", number(2), X), call("add", suc(Y), suc(X))))
        self.meets(NEAR, ("inner", "h", ("g",)), (behind(row, fact("g", same(suc(X), call("add", Y, suc(X))))), NEAR), context=behind(row))
        lore = Lore(BOOK_ROWS + [("taken", "ones", same(suc(ZERO), suc(ZERO)))])
        self.meets(RAIN, ("inner", "ones", ("h",)), ((fact("h", same(ZERO, ZERO)),), RAIN), context=(), lore=lore)

    def test_inner_of_four_args(self):
        lore = Lore(BOOK_ROWS + [("kind", "quad", (("Quad", ("nat", "item", "nat", "nat")),))])
        t, u = form("Quad", X, I, Y, ZERO), form("Quad", Y, I, call("add", ZERO, Y), suc(Y))
        row = fact("h", same(t, u))
        there = behind(row, fact("g", same(X, Y)), fact("m", same(I, I)), fact("o", same(Y, Y)), fact("q", same(ZERO, suc(Y))))
        self.meets(NEAR, ("inner", "h", ("g", "m", "o", "q")), (there, NEAR), context=behind(row), lore=lore)

    def test_inner_fails(self):
        for h in ("a", "b", "n", "d", "none", "x", "lie", None):
            for names in ((), ("h",), ("h", "g")):
                self.fails(NEAR, ("inner", h, names))
        self.fails(NEAR, ("inner", "k", ()), ("inner", "k", ("h", "g")), ("inner", "k", ["h"]), ("inner", "k", "h"), ("inner", "p", ("h",)))
        self.fails(NEAR, ("inner", "h", ()), ("inner", "h", ("g",)), context=behind(fact("h", same(ZERO, ZERO))))
        for name in OLD:
            self.fails(NEAR, ("inner", "k", (name,)), ("inner", "p", ("h", name)))
        self.fails(NEAR, ("inner", "p", ("h", "h")))
        lore = Lore(BOOK_ROWS + [("kind", "side", (("Left", ("nat",)), ("Right", ("nat",))))])
        context = behind(fact("h", same(form("Left", X), form("Right", X))))
        self.fails(NEAR, ("inner", "h", ("g",)), context=context, lore=lore)
        self.meets(NEAR, ("unlike", "h"), context=context, lore=lore)
        self.fails(NEAR, ("inner", "h", ("g",)), context=behind(fact("h", same(suc(X), call("twice", number(40))))))


class TestShapes(MeetCase):

    def test_a_part_less_or_more_or_a_list(self):
        right = [(("if", RAIN, RAIN), ("into", "h")), (even(X), ("by", "b")), (even(X), ("use", "b", ())), (RAIN, ("have", "h", RAIN)),
                 (RAIN, ("back", "x")), (("and", RAIN, RAIN), ("both",)), (("or", RAIN, RAIN), ("left",)), (("or", RAIN, RAIN), ("right",)),
                 (("some", "nat", RAIN), ("with", X)), (RAIN, ("apart", "d", ("h", "g"))), (same(X, X), ("plain",)),
                 (even(call("add", ZERO, X)), ("reckon",)), (RAIN, ("unlike", "n")), (RAIN, ("inner", "k", ("h",)))]
        for G, tactic in right:
            self.asked((CONTEXT, G), tactic)
            word = tactic[0]
            self.fails(G, tactic[:-1], tactic + ("x",), tactic + ((),), tactic + (X,), list(tactic), (word.title(),) + tactic[1:],
                       tactic[1:], (word.encode(),) + tactic[1:])
            for k in range(len(tactic)):
                for thing in odd_things():
                    if (word, thing) not in (("back", "x"), ("have", FALSE), ("into", "x"), ("use", ()), ("inner", ("free",))):
                        self.fails(G, tactic[:k] + (thing,) + tactic[k + 1:])


if __name__ == "__main__":
    unittest.main()
