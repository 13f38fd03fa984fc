"""Short ways to write terms, statements and rows, and the things that several tests share."""

FALSE = ("false",)
ZERO = ("form", "Zero", ())
NIL = ("form", "Nil", ())


def free(x):
    return ("free", x)


def bound(k):
    return ("bound", k)


def form(name, *args):
    return ("form", name, args)


def call(name, *args):
    return ("call", name, args)


def atom(name, *args):
    return ("atom", name, args)


def same(t, u):
    return ("same", t, u)


def suc(t):
    return ("form", "Suc", (t,))


def number(k):
    t = ZERO
    for turn in range(k):
        t = suc(t)
    return t


def number_value(k):
    made = ("Zero", ())
    for turn in range(k):
        made = ("Suc", (made,))
    return made


def nested(k, inmost):
    """The term inmost beneath k forms."""
    t = inmost
    for turn in range(k):
        t = form("Wrap", t)
    return t


NAT = ("kind", "nat", (("Zero", ()), ("Suc", ("nat",))))
LIST = ("kind", "list", (("Nil", ()), ("Cons", ("item", "list"))))
PAIR = ("kind", "pair", (("Pair", ("item", "nat")),))
ADD = ("rule", "add", ("nat", "nat"), "nat", (bound(0), suc(call("add", bound(0), bound(1)))))
TWICE = ("short", "twice", ("nat",), "nat", call("add", bound(0), bound(0)))
LEN = ("rule", "len", ("list",), "nat", (ZERO, suc(call("len", bound(1)))))
FIRST = ("rule", "first", ("list", "item"), "item", (bound(0), bound(0)))

ROWS = [
    NAT,
    ("open", "item"),
    LIST,
    PAIR,
    ("given", "pick", ("item", "nat"), "item"),
    ("given", "spot", (), "item"),
    ("given", "size", ("item",), "nat"),
    ("atom", "even", ("nat",)),
    ("atom", "near", ("item", "item")),
    ("atom", "rain", ()),
    ADD,
    TWICE,
    LEN,
    FIRST,
    ("taken", "rains", ("atom", "rain", ())),
    ("reasoned", "dry", ("if", ("atom", "rain", ()), ("atom", "rain", ())), ("fact", "rains")),
]

# Things that are no term, no statement, no row, no world: of other kinds, or only alike.
ANYTHING = [
    None, True, False, 0, 1, -1, 12345678901234567890, 1.5, "", "x", "false", b"x", b"", (), ((),), [], [()], {}, {"x": 1},
    set(), frozenset(), object(), len, int, range(3), ("free",), ("false",), ["false"], ("nope", 1, 2), (1, 2, 3),
    (None,), (("free", "x"),), ([], []), ({}, {}, {}), ("free", "x", "y"), ("bound", -1), ("bound", True), ("all",),
]


def odd_things():
    """More of those, with a list that holds itself."""
    knot = []
    knot.append(knot)
    return ANYTHING + [knot, (knot,), ("form", "C", knot), ("atom", "p", knot), ("kind", knot, knot)]


def raised(kind, deed, *args):
    """The error of this very class that deed raises of args, None where it raises none."""
    try:
        deed(*args)
    except kind as error:
        return error if type(error) is kind else None
    return None
