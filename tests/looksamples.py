"""A book, a context and a right reason of each word, for the tests of the looker and of what goes by it."""

from samples import FALSE, ROWS, ZERO, atom, bound, call, form, free, same, suc

X, Y, I, L = free("x"), free("y"), free("i"), free("l")


def even(t):
    return atom("even", t)


def no(A):
    return ("if", A, FALSE)


RAIN = atom("rain")
NEAR = atom("near", I, I)
EVENS = ("all", "nat", even(bound(0)))

TAKEN = [
    ("taken", "evens", EVENS),
    ("taken", "both", ("and", RAIN, EVENS)),
    ("taken", "either", ("or", RAIN, FALSE)),
    ("taken", "there", ("some", "item", atom("near", bound(0), bound(0)))),
    ("taken", "sames", ("all", "nat", ("all", "nat", ("if", even(bound(1)), ("if", RAIN, same(bound(1), bound(0))))))),
    ("taken", "hasty", ("if", RAIN, FALSE)),
    ("taken", "lie", same(ZERO, suc(ZERO))),
]
BOOK_ROWS = ROWS[:-1] + TAKEN

CONTEXT = (
    ("thing", "x", "nat"),
    ("thing", "y", "nat"),
    ("thing", "i", "item"),
    ("thing", "l", "list"),
    ("fact", "a", same(X, Y)),
    ("fact", "b", even(X)),
    ("fact", "c", ("if", even(X), even(Y))),
    ("fact", "d", ("and", even(X), RAIN)),
    ("fact", "e", ("or", even(X), even(Y))),
    ("fact", "f", FALSE),
    ("fact", "u", ("all", "nat", same(bound(0), X))),
    ("fact", "w", ("some", "nat", same(bound(0), X))),
    ("fact", "k", same(suc(X), suc(Y))),
    ("fact", "n", same(ZERO, suc(X))),
    ("fact", "p", same(form("Cons", I, L), form("Cons", call("spot"), form("Nil")))),
    ("fact", "r", ("all", "nat", ("if", even(bound(0)), even(suc(bound(0)))))),
    ("fact", "z", even(ZERO)),
)
GOALS = [(CONTEXT, even(suc(X))), ((), RAIN), (CONTEXT + (("fact", "h", RAIN),), NEAR)]

ADDED = same(call("add", bound(0), ZERO), bound(0))
ADDING = ("induct", "nat", ADDED, (
    ((), (), ("reckon", same(call("add", ZERO, ZERO), ZERO), ("plain", ZERO))),
    (("m",), ("g",), ("reckon", same(call("add", suc(free("m")), ZERO), suc(free("m"))),
                      ("swap", ("fact", "g"), same(suc(call("add", free("m"), ZERO)), suc(bound(0))),
                       ("plain", suc(call("add", free("m"), ZERO)))))),
))

# Each word with a right reason in CONTEXT, by GOALS, and what it bears out.
RIGHT = {
    "fact": (("fact", "b"), even(X)),
    "into": (("into", "h", RAIN, ("both", ("fact", "h"), ("fact", "b"))), ("if", RAIN, ("and", RAIN, even(X)))),
    "give": (("give", ("fact", "c"), ("fact", "b")), even(Y)),
    "each": (("each", "m", "nat", ("plain", free("m"))), ("all", "nat", same(bound(0), bound(0)))),
    "at": (("at", ("fact", "u"), suc(Y)), same(suc(Y), X)),
    "both": (("both", ("fact", "a"), ("fact", "b")), ("and", same(X, Y), even(X))),
    "first": (("first", ("fact", "d")), even(X)),
    "second": (("second", ("fact", "d")), RAIN),
    "left": (("left", ("fact", "b"), RAIN), ("or", even(X), RAIN)),
    "right": (("right", RAIN, ("fact", "b")), ("or", RAIN, even(X))),
    "cases": (("cases", ("fact", "e"), "h", ("give", ("fact", "c"), ("fact", "h")), "g", ("fact", "g")), even(Y)),
    "with": (("with", X, even(bound(0)), ("fact", "b")), ("some", "nat", even(bound(0)))),
    "take": (("take", ("fact", "w"), "m", "h", ("with", free("m"), same(bound(0), X), ("fact", "h"))),
             ("some", "nat", same(bound(0), X))),
    "never": (("never", ("fact", "f"), NEAR), NEAR),
    "plain": (("plain", call("add", X, Y)), same(call("add", X, Y), call("add", X, Y))),
    "swap": (("swap", ("fact", "a"), even(bound(0)), ("fact", "b")), even(Y)),
    "unlike": (("unlike", ("fact", "n")), FALSE),
    "inner": (("inner", ("fact", "p"), 1), same(L, form("Nil"))),
    "induct": (ADDING, ("all", "nat", ADDED)),
    "forms": (("forms", X, (((), "h", ("swap", ("swap", ("fact", "h"), same(bound(0), X), ("plain", X)), even(bound(0)), ("fact", "z"))),
                            (("m",), "g", ("fact", "b")))), even(X)),
    "sure": (("sure", even(X)), ("or", even(X), no(even(X)))),
    "reckon": (("reckon", even(call("add", ZERO, X)), ("fact", "b")), even(call("add", ZERO, X))),
    "hole": (("hole", 0), even(suc(X))),
}
