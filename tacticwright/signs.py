"""Signs: what a statement without all and some comes to by the signs of its sames and atoms, and reasons of it.

Signs are a list of tuples (X, whether it is so, p), X a same or an atom and p a reason of X or of not X.
"""

from tacticwright.bookrows import KEPT_FOR_SETTLING
from tacticwright.terms import SMALL_LETTERS
from tacticwright.terms import alike
from tacticwright.terms import folded
from tacticwright.terms import parts_of
from tacticwright.worlds import joined_truth

SIGNED_WORDS = ("same", "atom")


def settling_name(n):
    """The n-th of the names, some hundred, that are kept for settling."""
    return KEPT_FOR_SETTLING + SMALL_LETTERS[n // len(SMALL_LETTERS)] + SMALL_LETTERS[n % len(SMALL_LETTERS)]


def unlike_in(A, words):
    """The list of the unlike terms and statements of these words that stand in a statement, from the left."""
    found = []
    pending = [A]
    while pending:
        part = pending.pop()
        if part[0] in words and not any([alike(part, one) for one in found]):
            found.append(part)
        pending.extend(parts_of(part)[::-1])
    return found


def sign_of(signs, X):
    """The tuple of a same or an atom among signs, None where there is none."""
    for sign in signs:
        if alike(sign[0], X):
            return sign
    return None


def truth_by(signs, A):
    """The truth of a statement by signs: True, False, or None where they don't tell it."""
    def tell(part, depth, made):
        if part[0] in SIGNED_WORDS:
            sign = sign_of(signs, part)
            return None if sign is None else sign[1]
        return False if part[0] == "false" else joined_truth(part[0], made)
    return folded(A, tell, SIGNED_WORDS)


def rows_to_show(signs, A, n):
    """What is to be done for a reason of a statement that is True by signs, and how it is made of what that tells."""
    if A[0] == "and":
        return [("show", A[1], n), ("show", A[2], n), ("make", 2, lambda made: ("both", made[0], made[1]))]
    if A[0] == "or" and truth_by(signs, A[1]) is True:
        return [("show", A[1], n), ("make", 1, lambda made: ("left", made[0], A[2]))]
    if A[0] == "or":
        return [("show", A[2], n), ("make", 1, lambda made: ("right", A[1], made[0]))]
    if A[0] != "if":
        return [("make", 0, lambda made: sign_of(signs, A)[2])]
    h = settling_name(n)
    if truth_by(signs, A[2]) is True:
        return [("show", A[2], n + 1), ("make", 1, lambda made: ("into", h, A[1], made[0]))]
    never = [("make", 1, lambda made: ("into", h, A[1], ("never", made[0], A[2])))]
    return [("refute", A[1], ("fact", h), n + 1)] + never


def rows_to_refute(signs, A, p, n):
    """What is to be done for a reason of false, made of a reason p of a statement that is False by signs."""
    if A[0] == "false":
        return [("make", 0, lambda made: p)]
    if A[0] == "and" and truth_by(signs, A[1]) is False:
        return [("refute", A[1], ("first", p), n)]
    if A[0] == "and":
        return [("refute", A[2], ("second", p), n)]
    if A[0] == "if":
        return [("show", A[1], n), ("refute given", A[2], p, n)]
    if A[0] != "or":
        return [("make", 0, lambda made: ("give", sign_of(signs, A)[2], p))]
    h = settling_name(n)
    sides = [("refute", part, ("fact", h), n + 1) for part in A[1:]]
    return sides + [("make", 2, lambda made: ("cases", p, h, made[0], h, made[1]))]


def done_by(signs, first):
    """The reason that comes of a row of what is to be done; it goes by a list of rows, for statements may be deep."""
    pending = [first]
    made = []
    while pending:
        row = pending.pop()
        if row[0] == "make":
            word, many, build = row
            at = len(made) - many
            made[at:] = [build(made[at:])]
        elif row[0] == "show":
            pending.extend(rows_to_show(signs, row[1], row[2])[::-1])
        else:
            word, A, p, n = row
            p = ("give", p, made.pop()) if word == "refute given" else p
            pending.extend(rows_to_refute(signs, A, p, n)[::-1])
    return made[0]


def shown(signs, A, n):
    """A reason of a statement that is True by signs; the facts it puts behind have names from the n-th on."""
    return done_by(signs, ("show", A, n))


def refuted(signs, A, p, n):
    """A reason of false, made of a reason p of a statement that is False by signs; names as for shown."""
    return done_by(signs, ("refute", A, p, n))
