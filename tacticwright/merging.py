"""Merging: which terms are the same by some sames that are known, and reasons of it.

The terms stand in a list, those within others among them, and are spoken of by their numbers there. What is known
binds two of them, and so do args that are the same two calls of one function; reasons go by the ways along the bonds.
"""

from tacticwright.rewriting import swapped
from tacticwright.terms import alike
from tacticwright.terms import parts_of
from tacticwright.terms import with_parts

MARK = ("bound", 0)


def number_of(things, wanted):
    """The number, in a list, of the thing that is wanted."""
    return [alike(thing, wanted) for thing in things].index(True)


class Merging:
    """The terms, the group that each belongs to, and the bonds: two numbers and a reason of the same of both."""

    def __init__(self, terms):
        self.terms = terms
        self.groups = list(range(len(terms)))
        self.bonds = []

    def numbers(self, thing):
        """The list of the numbers of the terms straight within a term or statement."""
        return [number_of(self.terms, part) for part in parts_of(thing)]

    def are_one(self, ones, others):
        """Whether terms of these numbers are the same, one by one."""
        return [self.groups[k] for k in ones] == [self.groups[k] for k in others]

    def bind(self, one, other, p):
        """Makes one group of those of two terms, p being a reason of the same of both."""
        gone, stays = self.groups[one], self.groups[other]
        if gone != stays:
            self.bonds.append((one, other, p))
            self.groups = [stays if group == gone else group for group in self.groups]

    def bonds_from(self, one):
        """The list of the pairs of a number that a bond leads to and a reason of the same of both."""
        onward = [(far, p) for near, far, p in self.bonds if near == one]
        return onward + [(near, swapped(self.terms[near], p)) for near, far, p in self.bonds if far == one]

    def way(self, one, other):
        """The list of the reasons along the bonds from a term to one of its group."""
        ways = {one: []}
        pending = [one]
        while other not in ways:
            at = pending.pop()
            for far, p in self.bonds_from(at):
                if far not in ways:
                    ways[far] = ways[at] + [p]
                    pending.append(far)
        return ways[other]

    def same_reason(self, one, other):
        """A reason of the same of two terms of one group."""
        t = self.terms[one]
        along = self.way(one, other)
        if len(along) == 0:
            return ("plain", t)
        made = along[0]
        for p in along[1:]:
            made = ("swap", p, ("same", t, MARK), made)
        return made

    def moved(self, around, ones, others, p):
        """A reason of around(terms of others), made of one of around(terms of ones)."""
        parts = [self.terms[k] for k in ones]
        made = p
        for k, (one, other) in enumerate(zip(ones, others)):
            if one != other:
                marked = parts[:k] + [MARK] + parts[k + 1:]
                made = ("swap", self.same_reason(one, other), around(marked), made)
                parts[k] = self.terms[other]
        return made

    def are_called_alike(self, t, u):
        """Whether two terms are calls of one function, of args that are the same."""
        return t[0] == "call" and t[:2] == u[:2] and self.are_one(self.numbers(t), self.numbers(u))

    def next_alike(self):
        """The numbers of two terms that aren't of one group though they are called alike, or None."""
        for other, u in enumerate(self.terms):
            for one, t in enumerate(self.terms[:other]):
                if self.groups[one] != self.groups[other] and self.are_called_alike(t, u):
                    return (one, other)
        return None

    def call_reason(self, one, other):
        """A reason of the same of two terms that are called alike."""
        t, u = self.terms[one], self.terms[other]

        def around(parts):
            return ("same", t, with_parts(t, parts))
        return self.moved(around, self.numbers(t), self.numbers(u), ("plain", t))
