"""rewriting: walks of one place each, and the tactic turn (points 3 and 19)."""

import random
import unittest

import making
import slow
from looksamples import BOOK_ROWS, CONTEXT, EVENS, I, L, NEAR, RAIN, X, Y, even
from meeting import MeetCase
from samples import FALSE, NIL, ROWS, ZERO, atom, bound, call, form, free, number, odd_things, same, suc
from tacticwright.lore import Lore
from tacticwright.rewriting import walk

M = free("m")


def add(t, u):
    return call("add", t, u)


def terms_of(A):
    """The terms straight within the statements of a statement, from the left."""
    if A[0] in ("same", "atom"):
        return slow.parts(A)
    return [t for part in A[1:] if isinstance(part, tuple) for t in terms_of(part)]


def with_terms(A, terms):
    """A statement with other terms, a list that is taken from, in their places."""
    if A[0] == "same":
        return ("same", terms.pop(0), terms.pop(0))
    if A[0] == "atom":
        return ("atom", A[1], tuple(terms.pop(0) for arg in A[2]))
    return (A[0],) + tuple(with_terms(part, terms) if isinstance(part, tuple) else part for part in A[1:])


def slow_walk(A, t, u):
    """The walk, term by term and in each by all its places in the order of tuples."""
    told = [A]
    terms = terms_of(A)
    for k, term in enumerate(terms):
        changed = []
        for place in slow.places(term):
            if slow.at(term, place) == t and not any(place[:len(one)] == one for one in changed):
                changed.append(place)
                terms[k] = slow.put_at(terms[k], place, u)
                told.append(with_terms(A, list(terms)))
    return told


class TestWalk(unittest.TestCase):

    def test_where_it_is_not_there(self):
        for A in (RAIN, FALSE, even(Y), EVENS, ("and", RAIN, same(Y, ZERO))):
            self.assertEqual(walk(A, X, ZERO), [A])
        self.assertEqual(walk(even(suc(X)), suc(Y), ZERO), [even(suc(X))])

    def test_one_place(self):
        self.assertEqual(walk(even(X), X, suc(Y)), [even(X), even(suc(Y))])
        self.assertEqual(walk(even(suc(X)), suc(X), Y), [even(suc(X)), even(Y)])
        self.assertEqual(walk(even(suc(X)), X, Y), [even(suc(X)), even(suc(Y))])

    def test_term_by_term_and_by_places(self):
        A = ("and", same(add(X, add(X, Y)), X), ("or", even(Y), even(X)))
        rows = [((X, add(X, Y)), X, X), ((ZERO, add(X, Y)), X, X), ((ZERO, add(ZERO, Y)), X, X), ((ZERO, add(ZERO, Y)), ZERO, X),
                ((ZERO, add(ZERO, Y)), ZERO, ZERO)]
        self.assertEqual(walk(A, X, ZERO), [("and", same(add(*args), right), ("or", even(Y), even(last))) for args, right, last in rows])

    def test_not_within_one_that_was_changed(self):
        self.assertEqual(walk(even(X), X, suc(X)), [even(X), even(suc(X))])
        self.assertEqual(walk(even(add(X, X)), X, add(X, X)), [even(add(X, X)), even(add(add(X, X), X)), even(add(add(X, X), add(X, X)))])

    def test_within_one_that_is_alike(self):
        t = suc(suc(X))
        self.assertEqual(walk(even(suc(t)), t, Y), [even(suc(t)), even(suc(Y))])
        self.assertEqual(walk(even(suc(suc(ZERO))), suc(ZERO), ZERO), [even(suc(suc(ZERO))), even(suc(ZERO))])
        f = add(ZERO, ZERO)
        self.assertEqual(walk(even(add(f, add(f, f))), f, ZERO),
                         [even(add(f, add(f, f))), even(add(ZERO, add(f, f))), even(add(ZERO, add(ZERO, f))), even(add(ZERO, add(ZERO, ZERO)))])

    def test_beneath_alls_and_somes(self):
        A = ("all", "nat", ("some", "nat", ("if", same(bound(0), X), same(bound(1), suc(X)))))
        one = ("all", "nat", ("some", "nat", ("if", same(bound(0), Y), same(bound(1), suc(X)))))
        two = ("all", "nat", ("some", "nat", ("if", same(bound(0), Y), same(bound(1), suc(Y)))))
        self.assertEqual(walk(A, X, Y), [A, one, two])

    def test_the_list_is_the_askers_own(self):
        A = even(X)
        walk(A, X, Y).clear()
        self.assertEqual(walk(A, X, Y), [A, even(Y)])

    def test_against_the_slow_walk(self):
        rng = random.Random(11)
        things = {"x": "nat", "y": "nat", "i": "item"}
        walked = 0
        for turn in range(600):
            A = making.statement(rng, ROWS, things, [], rng.randrange(4))
            terms = [term for term in terms_of(A)]
            whole = [slow.at(term, place) for term in terms for place in slow.places(term)]
            whole = [t for t in whole if not any(leaf[0] == "bound" for leaf, depth in slow.leaves(t))]
            t = rng.choice(whole) if whole else X
            u = rng.choice([suc(t), X, ZERO, add(t, t)])
            told = walk(A, t, u)
            self.assertEqual(told, slow_walk(A, t, u))
            walked += len(told) > 2
        self.assertGreater(walked, 50)

    def test_many_places(self):
        A = even(X)
        for turn in range(8):
            A = ("and", A, A)
        told = walk(A, X, Y)
        self.assertEqual(len(told), 257)
        self.assertNotIn("'x'", repr(told[-1]))


class TestTurn(MeetCase):

    def test_on_and_back(self):
        self.meets(even(X), ("turn", "a", (), "on"), even(Y))
        self.meets(even(Y), ("turn", "a", (), "back"), even(X))
        self.meets(same(add(X, Y), X), ("turn", "a", (), "on"), same(add(Y, Y), Y))
        self.meets(same(add(X, Y), X), ("turn", "a", (), "back"), same(add(X, X), X))

    def test_a_fact_of_the_book(self):
        lore = Lore(BOOK_ROWS + [("taken", "zeros", ("all", "nat", same(add(bound(0), ZERO), bound(0))))])
        self.meets(even(suc(add(X, ZERO))), ("turn", "zeros", (X,), "on"), even(suc(X)), lore=lore)
        self.meets(even(suc(X)), ("turn", "zeros", (X,), "back"), even(suc(add(X, ZERO))), lore=lore)
        self.meets(even(suc(ZERO)), ("turn", "zeros", (ZERO,), "back"), ((), even(suc(add(ZERO, ZERO)))), context=(), lore=lore)

    def test_none_some_and_all_of_the_first_alls_opened(self):
        lore = Lore(BOOK_ROWS + [("taken", "swaps", ("all", "nat", ("all", "nat", same(add(bound(0), bound(1)), add(bound(1), bound(0))))))])
        self.meets(even(add(Y, X)), ("turn", "swaps", (X, Y), "on"), even(add(X, Y)), lore=lore)
        self.meets(even(add(Y, X)), ("turn", "swaps", (Y, X), "back"), even(add(X, Y)), lore=lore)
        self.fails(even(add(Y, X)), ("turn", "swaps", (X,), "on"), ("turn", "swaps", (), "on"), ("turn", "swaps", (X, Y, Y), "on"), lore=lore)
        self.meets(even(suc(Y)), ("turn", "u", (suc(Y),), "on"), even(X))

    def test_beneath_alls(self):
        G = ("all", "nat", ("some", "item", ("if", same(bound(1), X), same(call("size", bound(0)), suc(X)))))
        come = ("all", "nat", ("some", "item", ("if", same(bound(1), Y), same(call("size", bound(0)), suc(Y)))))
        self.meets(G, ("turn", "a", (), "on"), come)
        self.meets(come, ("turn", "a", (), "back"), G)

    def test_wherever_it_stands(self):
        G = ("or", even(X), ("and", same(X, add(suc(X), Y)), ("if", RAIN, even(X))))
        self.meets(G, ("turn", "a", (), "on"), ("or", even(Y), ("and", same(Y, add(suc(Y), Y)), ("if", RAIN, even(Y)))))

    def test_where_it_comes_within_itself(self):
        context = (("thing", "x", "nat"), ("fact", "h", same(X, suc(X))), ("fact", "g", same(suc(X), X)))
        self.meets(same(X, add(X, ZERO)), ("turn", "h", (), "on"), same(suc(X), add(suc(X), ZERO)), context=context)
        self.meets(same(suc(X), X), ("turn", "h", (), "back"), same(X, X), context=context)
        self.meets(same(suc(X), X), ("turn", "g", (), "back"), same(suc(suc(X)), suc(X)), context=context)
        self.meets(even(suc(suc(X))), ("turn", "g", (), "on"), even(suc(X)), context=context)

    def test_where_the_other_stands_there_already(self):
        self.meets(same(X, Y), ("turn", "a", (), "on"), same(Y, Y))
        self.meets(same(Y, X), ("turn", "a", (), "on"), same(Y, Y))
        self.meets(same(Y, X), ("turn", "a", (), "back"), same(X, X))

    def test_fails_where_there_is_none(self):
        self.fails(even(Y), ("turn", "a", (), "on"))
        self.fails(even(X), ("turn", "a", (), "back"))
        self.fails(RAIN, ("turn", "a", (), "on"), ("turn", "a", (), "back"))

    def test_fails_where_both_are_one(self):
        context = CONTEXT + (("fact", "h", same(X, X)),)
        self.fails(even(X), ("turn", "h", (), "on"), ("turn", "h", (), "back"), context=context)
        self.fails(even(X), ("turn", "u", (X,), "on"))

    def test_fails_of_others(self):
        for h in ("b", "c", "d", "u", "none", "x", "rains", "evens", "X", None):
            self.fails(even(X), ("turn", h, (), "on"), ("turn", h, (), "back"))
        for ts in ((I,), (M,), (bound(0),), (X, X), [Y], Y, None, ("y",), (RAIN,), (None,), ()):
            self.fails(even(X), ("turn", "u", ts, "back"))
        for way in ("On", "", "forth", None, True, ("on",), "o", "onback"):
            self.fails(same(X, Y), ("turn", "a", (), way))
        self.fails(even(X), ("turn", "a", ()), ("turn", "a", (), "on", "on"), ["turn", "a", (), "on"], ("turn",))
        for thing in odd_things():
            self.fails(same(X, Y), ("turn", thing, (), "on"), ("turn", "a", (), thing))
            if thing != ():
                self.fails(even(X), ("turn", "a", thing, "on"))


if __name__ == "__main__":
    unittest.main()
