"""Writing: terms, statements, reasons and tactics as texts.

What is to be written is kept in a list of texts and of tuples (sort, thing, around): around are the names of the alls
and somes around a statement or term, from outside, and the frees of the statement or body at hand, which no name takes.
"""

from tacticwright.reasons import REASON_PARTS
from tacticwright.tacticparts import TACTIC_PARTS
from tacticwright.terms import BIND_WORDS
from tacticwright.terms import SMALL_LETTERS
from tacticwright.terms import free_in

FIRST_LETTERS = "xyz"
NOTHING_AROUND = ((), ())
JOINTS = {"and": " and ", "or": " or ", "if": " -> "}


def told_name(n):
    """The n-th of the names for alls and somes: x, y, z, xa, ya, za, xb and so on."""
    letters = ""
    rest = n // len(FIRST_LETTERS)
    while rest > 0:
        rest -= 1
        letters = SMALL_LETTERS[rest % len(SMALL_LETTERS)] + letters
        rest = rest // len(SMALL_LETTERS)
    return FIRST_LETTERS[n % len(FIRST_LETTERS)] + letters


def next_name(around):
    """The first of the names that is neither free nor a name around."""
    names, frees = around
    n = 0
    while told_name(n) in names or told_name(n) in frees:
        n += 1
    return told_name(n)


def parted(rows):
    """One list made of lists, a comma and a blank between each two."""
    made = []
    for row in rows:
        made.extend([", "] + row if made else row)
    return made


def with_args(thing, around):
    """What is written of a form, a call or an atom with its args in brackets."""
    return [thing[1] + "("] + parted([[("term", arg, around)] for arg in thing[2]]) + [")"]


def term_pieces(t, around):
    if t[0] == "free":
        return [t[1]]
    if t[0] == "bound":
        return [around[0][-1 - t[1]]]
    if t[0] == "form" and len(t[2]) == 0:
        return [t[1]]
    return with_args(t, around)


def bound_pieces(A, around):
    """The name that a body's bound is written by, and what is written of the body by it."""
    x = next_name(around)
    return x, ("statement", A, (around[0] + (x,), around[1]))


def statement_pieces(A, around):
    if A[0] == "false":
        return ["false"]
    if A[0] == "atom":
        return with_args(A, around)
    if A[0] == "same":
        return [("term", A[1], around), " = ", ("term", A[2], around)]
    if A[0] in BIND_WORDS:
        x, within = bound_pieces(A[2], around)
        return [A[0] + " " + x + " " + A[1] + ": ", within]
    return ["(", ("statement", A[1], around), JOINTS[A[0]], ("statement", A[2], around), ")"]


def body_pieces(A, around):
    x, within = bound_pieces(A, around)
    return [x + ": ", within]


def name_pieces(name, around):
    return [name]


def number_pieces(k, around):
    return [str(k)]


def part_piece(sort, part):
    """A part of a reason or tactic as it is still to be written."""
    at_hand = sort == "statement" or sort == "body"
    return (sort, part, ((), free_in(part)) if at_hand else NOTHING_AROUND)


def worded(word, sorts, parts):
    """What is written of a word and the parts behind it, of these sorts."""
    return [word + "("] + parted([[part_piece(sort, part)] for sort, part in zip(sorts, parts)]) + [")"]


def reason_pieces(p, around):
    return worded(p[0], REASON_PARTS[p[0]], p[1:])


def tactic_pieces(a, around):
    return worded(a[0], TACTIC_PARTS[a[0]], a[1:])


def listed_pieces(sort, things):
    """What is written of a tuple of things of this sort."""
    return ["["] + parted([[part_piece(sort, thing)] for thing in things]) + ["]"]


def names_pieces(names, around):
    return listed_pieces("name", names)


def terms_pieces(ts, around):
    return listed_pieces("term", ts)


def tactics_pieces(some, around):
    return listed_pieces("tactic", some)


def joined_row(texts):
    """The parts of a row joined by a stroke between blanks; tuples of names are parted by a blank."""
    return " | ".join([text if isinstance(text, str) else " ".join(text) for text in texts])


def rows_pieces(rows, around):
    """What is written of rows of names."""
    return ["["] + parted([[joined_row(row)] for row in rows]) + ["]"]


def reason_rows_pieces(rows, around):
    """What is written of rows of names that end with a reason each."""
    return ["["] + parted([[joined_row(row[:2]) + " | ", part_piece("reason", row[2])] for row in rows]) + ["]"]


PIECES = {
    "term": term_pieces,
    "statement": statement_pieces,
    "body": body_pieces,
    "reason": reason_pieces,
    "tactic": tactic_pieces,
    "h": name_pieces,
    "x": name_pieces,
    "K": name_pieces,
    "name": name_pieces,
    "way": name_pieces,
    "number": number_pieces,
    "names": names_pieces,
    "terms": terms_pieces,
    "tactics": tactics_pieces,
    "induct rows": reason_rows_pieces,
    "forms rows": reason_rows_pieces,
    "induct names": rows_pieces,
    "cases names": rows_pieces,
}


def written(sort, thing):
    """The text of a thing of this sort."""
    pending = [part_piece(sort, thing)]
    texts = []
    while pending:
        piece = pending.pop()
        if isinstance(piece, str):
            texts.append(piece)
        else:
            tell = PIECES[piece[0]]
            pending.extend(tell(piece[1], piece[2])[::-1])
    return "".join(texts)


def show_term(t):
    """The text of a term."""
    return written("term", t)


def show_statement(A):
    """The text of a statement."""
    return written("statement", A)


def show_reason(p):
    """The text of a reason."""
    return written("reason", p)


def show_tactic(a):
    """The text of a tactic."""
    return written("tactic", a)
