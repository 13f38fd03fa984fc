"""Terms, statements, reasons and tactics of all words by a seeded source, right by no book, for writing and reading."""

from samples import FALSE, bound, free
from tacticwright.reasons import REASON_PARTS
from tacticwright.tacticparts import TACTIC_PARTS

NAMES = ["x", "y", "z", "xa", "h", "g", "nat", "list", "falsely", "allx", "abcdefgh", "on", "fact", "first", "run", "settlea"]
FORMS = ["A", "Zero", "Suc", "All", "Abcdefgh"]


def term(rng, inner, depth):
    """A term whose bounds are fewer than inner."""
    word = rng.choice(["free", "bound", "form", "call"]) if depth > 0 else rng.choice(["free", "bound"])
    if word == "bound" and inner > 0:
        return bound(rng.randrange(inner))
    if word in ("free", "bound"):
        return free(rng.choice(NAMES))
    args = tuple(term(rng, inner, depth - 1) for turn in range(rng.randrange(5)))
    return (word, rng.choice(FORMS if word == "form" else NAMES), args)


def statement(rng, inner, depth):
    word = rng.choice(["false", "same", "atom", "and", "or", "if", "all", "some", "all"]) if depth > 0 else rng.choice(["false", "same", "atom"])
    if word == "false":
        return FALSE
    if word == "same":
        return (word, term(rng, inner, 2), term(rng, inner, 2))
    if word == "atom":
        return (word, rng.choice(NAMES), tuple(term(rng, inner, 1) for turn in range(rng.randrange(5))))
    if word in ("all", "some"):
        return (word, rng.choice(NAMES), statement(rng, inner + 1, depth - 1))
    return (word, statement(rng, inner, depth - 1), statement(rng, inner, depth - 1))


def names(rng):
    return tuple(rng.choice(NAMES) for turn in range(rng.randrange(4)))


def part(rng, sort, depth):
    if sort in ("h", "x", "K", "name"):
        return rng.choice(NAMES)
    many = rng.randrange(3)
    made = {
        "term": lambda: term(rng, 0, 2),
        "statement": lambda: statement(rng, 0, 3),
        "body": lambda: statement(rng, 1, 3),
        "number": lambda: rng.choice([0, 1, 9, 10, 99, 100, 123456, 999999999]),
        "reason": lambda: reason(rng, depth - 1),
        "tactic": lambda: tactic(rng, depth - 1),
        "way": lambda: rng.choice(["on", "back"]),
        "names": lambda: names(rng),
        "terms": lambda: tuple(term(rng, 0, 2) for turn in range(many)),
        "tactics": lambda: tuple(tactic(rng, depth - 1) for turn in range(many)),
        "induct rows": lambda: tuple((names(rng), names(rng), reason(rng, depth - 1)) for turn in range(many)),
        "forms rows": lambda: tuple((names(rng), rng.choice(NAMES), reason(rng, depth - 1)) for turn in range(many)),
        "induct names": lambda: tuple((names(rng), names(rng)) for turn in range(many)),
        "cases names": lambda: tuple((names(rng), rng.choice(NAMES)) for turn in range(many)),
    }
    return made[sort]()


def worded(rng, table, leaves, depth):
    word = rng.choice(sorted(table) if depth > 0 else leaves)
    return (word,) + tuple(part(rng, sort, depth) for sort in table[word])


def reason(rng, depth):
    return worded(rng, REASON_PARTS, ["fact", "plain", "sure", "hole"], depth)


def tactic(rng, depth):
    leaves = [word for word in TACTIC_PARTS if "tactic" not in TACTIC_PARTS[word] and "tactics" not in TACTIC_PARTS[word]]
    return worded(rng, TACTIC_PARTS, sorted(leaves), depth)
