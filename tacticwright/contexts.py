"""Contexts: their things and facts, and entries put behind."""

from tacticwright.terms import alike
from tacticwright.terms import free_in


def things_of(context):
    """The dict from the names of a context's things to their kinds."""
    return {entry[1]: entry[2] for entry in context if entry[0] == "thing"}


def names_of(context):
    """The list of the names of a context's entries."""
    return [entry[1] for entry in context]


def are_unlike(names):
    """Whether no two of these names are the same."""
    return len(set(names)) == len(names)


def known(lore, context, h):
    """The statement of the context's fact h, else of the book's, None where there is none."""
    for word, name, told in context:
        if word == "fact" and name == h:
            return told
    row = lore.fact(h)
    return None if row is None else row[2]


def are_alike_entries(one, other):
    if one[:2] != other[:2]:
        return False
    return alike(one[2], other[2]) if one[0] == "fact" else one[2] == other[2]


def are_alike_contexts(one, other):
    """Whether two contexts are the same, entry by entry."""
    if len(one) != len(other):
        return False
    return all([are_alike_entries(entry, twin) for entry, twin in zip(one, other)])


def put_one(context, entry):
    """The context with an entry put behind, which takes out what it hides."""
    kept = [one for one in context if one[:2] != entry[:2]]
    # A fact has frees of things ahead of it alone, so where no thing is taken out no fact is.
    if entry[0] == "thing" and len(kept) < len(context):
        kept = [one for one in kept if one[0] == "thing" or entry[1] not in free_in(one[2])]
    return tuple(kept) + (entry,)


def put_behind(context, entries):
    """The context with entries, a list, put behind, one by one."""
    made = context
    for entry in entries:
        made = put_one(made, entry)
    return made


def form_of(C, xs):
    """The form C of the things xs."""
    return ("form", C, tuple([("free", x) for x in xs]))


def part_things(xs, kinds):
    """The list of the entries of the things xs, of these kinds."""
    return [("thing", x, kind) for x, kind in zip(xs, kinds)]
