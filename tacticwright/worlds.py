"""Worlds: the values of kinds and terms, the truth of statements, and what is refuted."""

from tacticwright.errors import NoWorld
from tacticwright.errors import TooGreat
from tacticwright.errors import TooLong
from tacticwright.listing import listed
from tacticwright.listing import value_counts
from tacticwright.reckoning import rule_term
from tacticwright.statements import statements_in
from tacticwright.terms import BIND_WORDS
from tacticwright.terms import parts_of
from tacticwright.worldlooks import is_too_great
from tacticwright.worldlooks import is_world

MOST_CALLS = 2000
MOST_LOOKS = 20000
PLAIN_WORDS = ("false", "same", "atom")


def checked(lore, world):
    """Refuses with NoWorld what is no world of a book, of anything."""
    if not is_world(lore, world):
        raise NoWorld()


def values(lore, world, K, depth):
    """The list of the values of a kind to a depth, and whether they are all."""
    found = [pair[0] for pair in listed(lore, world[0], K, depth, {})]
    return (found, len(found) == value_counts(lore, world[0])[K])


def sound(made):
    """A value, refused where it is too great."""
    if is_too_great(made):
        raise TooGreat()
    return made


def from_table(table, args):
    """What a table tells of args; values may be too deep to be asked for as keys, so its rows are walked."""
    rows, rest = table
    for key, told in rows.items():
        if key == args:
            return told
    return rest


def gone_into(lore, row, args):
    """The term that a call of a short or rule function stands for, and the values of its bounds."""
    if row[0] == "short":
        return (row[4], args)
    C, parts = args[0]
    return (rule_term(lore, row, C), parts + args[1:])


def term_value(lore, world, env, inner, t):
    """The value of a term, inner being the tuple of the values of its bounds.

    Calls may stand within one another far deeper than Python's own could, so what is still to do is kept in a list.
    """
    calls = 0
    pending = [(t, inner, False)]
    made = []
    while pending:
        part, bounds, ready = pending.pop()
        if part[0] == "free":
            made.append(sound(env[part[1]]))
        elif part[0] == "bound":
            made.append(bounds[part[1]])
        elif not ready:
            pending.append((part, bounds, True))
            pending.extend([(arg, bounds, False) for arg in reversed(part[2])])
        else:
            at = len(made) - len(part[2])
            args = tuple(made[at:])
            del made[at:]
            if part[0] == "form":
                made.append(sound((part[1], args)))
                continue
            row = lore.function(part[1])
            if row[0] == "given":
                made.append(from_table(world[1][part[1]], args))
            elif calls == MOST_CALLS:
                raise TooLong()
            else:
                calls += 1
                body, parts = gone_into(lore, row, args)
                pending.append((body, parts, False))
    return made[0]


def value(lore, world, env, t):
    """The value of a whole term, env being the values of its frees."""
    return term_value(lore, world, env, (), t)


def all_true(told, are_all):
    """Whether all of these truths are True; no True is told where not all were looked at."""
    if False in told:
        return False
    return True if are_all and None not in told else None


def one_true(told, are_all):
    """Whether one of these truths is True; no False is told where not all were looked at."""
    if True in told:
        return True
    return False if are_all and None not in told else None


def not_so(told):
    return None if told is None else not told


def joined_truth(word, told):
    """The truth of an and, or or if by the truths of both its sides."""
    if word == "and":
        return all_true(told, True)
    if word == "or":
        return one_true(told, True)
    return one_true([not_so(told[0]), told[1]], True)


class Looking:
    """The look for one truth: where it is looked for, and how many statements were looked at."""

    def __init__(self, lore, world, depth, env):
        self.lore = lore
        self.world = world
        self.depth = depth
        self.env = env
        self.lists = {}
        self.looks = 0

    def come_to(self):
        """Counts a statement that is come to."""
        if self.looks == MOST_LOOKS:
            raise TooLong()
        self.looks += 1

    def value_list(self, K):
        """The pair of the values of a kind and whether they are all, reckoned once."""
        if K not in self.lists:
            self.lists[K] = values(self.lore, self.world, K, self.depth)
        return self.lists[K]

    def looks_within(self, A, inner):
        """The list of the looks at what stands within A: a statement and the values of its bounds each."""
        if A[0] in BIND_WORDS:
            return [(A[2], (thing,) + inner) for thing in self.value_list(A[1])[0]]
        return [(part, inner) for part in statements_in(A)]

    def plain_truth(self, A, inner):
        """The truth of a statement in which none stands."""
        if A[0] == "false":
            return False
        told = tuple([term_value(self.lore, self.world, self.env, inner, t) for t in parts_of(A)])
        if A[0] == "same":
            return told[0] == told[1]
        return from_table(self.world[2][A[1]], told)

    def joined(self, A, told):
        """The truth of A by the truths of what stands within."""
        if A[0] not in BIND_WORDS:
            return joined_truth(A[0], told)
        are_all = self.value_list(A[1])[1]
        return all_true(told, are_all) if A[0] == "all" else one_true(told, are_all)


def truth(lore, world, depth, env, A):
    """The truth of a whole statement to a depth: True, False, or None where it isn't told."""
    looking = Looking(lore, world, depth, env)
    pending = [(A, (), None)]
    told = []
    while pending:
        part, inner, many = pending.pop()
        if many is not None:
            at = len(told) - many
            told[at:] = [looking.joined(part, told[at:])]
            continue
        looking.come_to()
        if part[0] in PLAIN_WORDS:
            told.append(looking.plain_truth(part, inner))
        else:
            within = looking.looks_within(part, inner)
            pending.append((part, inner, len(within)))
            pending.extend([(A_in, inner_in, None) for A_in, inner_in in reversed(within)])
    return told[0]


def good(lore, world, depth):
    """Whether all taken rows are True in a world, to a depth."""
    for row in lore.rows():
        if row[0] == "taken" and truth(lore, world, depth, {}, row[2]) is not True:
            return False
    return True


def refutes(lore, world, depth, A):
    """Whether a world is good, to a depth, and the statement A False there."""
    return good(lore, world, depth) and truth(lore, world, depth, {}, A) is False
