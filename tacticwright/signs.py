"""Signs: what a statement without all and some comes to by the signs of its sames and atoms, and reasons of it.

Signs are a list of tuples (X, whether it is so, p), X a same or an atom and p a reason of X or of not X.
"""

from tacticwright.bookrows import KEPT_FOR_SETTLING
from tacticwright.terms import SMALL_LETTERS
from tacticwright.terms import alike
from tacticwright.terms import folded
from tacticwright.terms import parts_of
from tacticwright.worlds import joined_truth

SIGNED_WORDS = ("same", "atom")


def settling_name(n):
    """The n-th of the names, some hundred, that are kept for settling."""
    return KEPT_FOR_SETTLING + SMALL_LETTERS[n // len(SMALL_LETTERS)] + SMALL_LETTERS[n % len(SMALL_LETTERS)]


def unlike_in(A, words):
    """The list of the unlike terms and statements of these words that stand in a statement, from the left."""
    found = []
    pending = [A]
    while pending:
        part = pending.pop()
        if part[0] in words and not any([alike(part, one) for one in found]):
            found.append(part)
        pending.extend(parts_of(part)[::-1])
    return found


def sign_of(signs, X):
    """The tuple of a same or an atom among signs, None where there is none."""
    for sign in signs:
        if alike(sign[0], X):
            return sign
    return None


def truth_by(signs, A):
    """The truth of a statement by signs: True, False, or None where they don't tell it."""
    def tell(part, depth, made):
        if part[0] in SIGNED_WORDS:
            sign = sign_of(signs, part)
            return None if sign is None else sign[1]
        return False if part[0] == "false" else joined_truth(part[0], made)
    return folded(A, tell, SIGNED_WORDS)


def shown_if(signs, A, n):
    word, B, C = A
    h = settling_name(n)
    if truth_by(signs, C) is True:
        return ("into", h, B, shown(signs, C, n + 1))
    return ("into", h, B, ("never", refuted(signs, B, ("fact", h), n + 1), C))


def shown(signs, A, n):
    """A reason of a statement that is True by signs; the facts it puts behind have names from the n-th on."""
    if A[0] == "and":
        return ("both", shown(signs, A[1], n), shown(signs, A[2], n))
    if A[0] == "or" and truth_by(signs, A[1]) is True:
        return ("left", shown(signs, A[1], n), A[2])
    if A[0] == "or":
        return ("right", A[1], shown(signs, A[2], n))
    if A[0] == "if":
        return shown_if(signs, A, n)
    return sign_of(signs, A)[2]


def refuted(signs, A, p, n):
    """A reason of false, made of a reason p of a statement that is False by signs; names as for shown."""
    if A[0] == "false":
        return p
    if A[0] == "and" and truth_by(signs, A[1]) is False:
        return refuted(signs, A[1], ("first", p), n)
    if A[0] == "and":
        return refuted(signs, A[2], ("second", p), n)
    if A[0] == "or":
        h = settling_name(n)
        left, right = [refuted(signs, part, ("fact", h), n + 1) for part in A[1:]]
        return ("cases", p, h, left, h, right)
    if A[0] == "if":
        return refuted(signs, A[2], ("give", p, shown(signs, A[1], n)), n)
    return ("give", sign_of(signs, A)[2], p)
