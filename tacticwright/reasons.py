"""Reasons: their words, what stands in them, the reasons within, their nodes and their depth."""

from tacticwright.statements import is_statement
from tacticwright.terms import is_count
from tacticwright.terms import is_name
from tacticwright.terms import is_term
from tacticwright.terms import nodes
from tacticwright.terms import word_of

MOST_REASON_NODES = 20000
MOST_REASON_DEPTH = 150

# What stands behind each word: names of facts (h), of things (x) and of kinds (K), terms, statements, bodies, numbers,
# reasons, and the two sorts of rows.
REASON_PARTS = {
    "fact": ("h",),
    "into": ("h", "statement", "reason"),
    "give": ("reason", "reason"),
    "each": ("x", "K", "reason"),
    "at": ("reason", "term"),
    "both": ("reason", "reason"),
    "first": ("reason",),
    "second": ("reason",),
    "left": ("reason", "statement"),
    "right": ("statement", "reason"),
    "cases": ("reason", "h", "reason", "h", "reason"),
    "with": ("term", "body", "reason"),
    "take": ("reason", "x", "h", "reason"),
    "never": ("reason", "statement"),
    "plain": ("term",),
    "swap": ("reason", "body", "reason"),
    "unlike": ("reason",),
    "inner": ("reason", "number"),
    "induct": ("K", "body", "induct rows"),
    "forms": ("term", "forms rows"),
    "sure": ("statement",),
    "reckon": ("statement", "reason"),
    "hole": ("number",),
}
NAME_PARTS = ("h", "x", "K")
STATEMENT_PARTS = ("statement", "body")
ROWS_PARTS = ("induct rows", "forms rows")


def are_names(thing):
    """Whether thing, of anything, is a tuple of names."""
    return isinstance(thing, tuple) and all([is_name(name) for name in thing])


def is_induct_row(thing):
    """Whether thing, of anything, is a tuple of names of parts, names of facts and a reason (not looked at)."""
    return isinstance(thing, tuple) and len(thing) == 3 and are_names(thing[0]) and are_names(thing[1])


def is_forms_row(thing):
    """Whether thing, of anything, is a tuple of names of parts, the name of a fact and a reason (not looked at)."""
    return isinstance(thing, tuple) and len(thing) == 3 and are_names(thing[0]) and is_name(thing[1])


def is_part(sort, thing):
    """Whether thing, of anything, may stand where a part of this sort is wanted; reasons aren't looked at."""
    if sort in NAME_PARTS:
        return is_name(thing)
    if sort in STATEMENT_PARTS:
        return is_statement(thing)
    if sort == "term":
        return is_term(thing)
    if sort == "number":
        return is_count(thing)
    if sort == "induct rows":
        return isinstance(thing, tuple) and all([is_induct_row(row) for row in thing])
    if sort == "forms rows":
        return isinstance(thing, tuple) and all([is_forms_row(row) for row in thing])
    return sort == "reason"


def sorted_parts(p):
    """The list of the pairs (sort, part) of what stands behind the word of a reason."""
    return list(zip(REASON_PARTS[p[0]], p[1:]))


def has_reason_word(thing):
    """Whether thing, of anything, is a tuple of a reason's word and as many things as stand behind it."""
    word = word_of(thing)
    return word in REASON_PARTS and len(thing) == len(REASON_PARTS[word]) + 1


def is_reason_node(thing):
    """Whether thing, of anything, is a reason as far as it can be seen without a look at the reasons within."""
    return has_reason_word(thing) and all([is_part(sort, part) for sort, part in sorted_parts(thing)])


def reasons_in(p):
    """The list of the reasons straight within a reason, from the left."""
    found = []
    for sort, part in sorted_parts(p):
        if sort == "reason":
            found.append(part)
        if sort in ROWS_PARTS:
            found.extend([row[2] for row in part])
    return found


def with_reasons(p, inner):
    """A reason with other ones, a list, in the places of those straight within it."""
    made = [p[0]]
    at = 0
    for sort, part in sorted_parts(p):
        if sort == "reason":
            made.append(inner[at])
            at += 1
        elif sort in ROWS_PARTS:
            made.append(tuple([(row[0], row[1], inner[at + k]) for k, row in enumerate(part)]))
            at += len(part)
        else:
            made.append(part)
    return tuple(made)


def facts_in(p):
    """The list of the names of the facts that a reason puts behind for those straight within it, from the left."""
    found = []
    for sort, part in sorted_parts(p):
        if sort == "h" and p[0] != "fact":
            found.append(part)
        if sort == "induct rows":
            found.extend([h for row in part for h in row[1]])
        if sort == "forms rows":
            found.extend([row[1] for row in part])
    return found


def said_in(p):
    """The list of the terms, statements and bodies that stand straight in a reason, from the left."""
    return [part for sort, part in sorted_parts(p) if sort == "term" or sort in STATEMENT_PARTS]


def is_reason(thing):
    """Whether thing is a reason by its looks, of anything."""
    pending = [thing]
    while pending:
        part = pending.pop()
        if not is_reason_node(part):
            return False
        pending.extend(reasons_in(part))
    return True


def reasons_of(p):
    """The list of all reasons that stand in a reason, itself first."""
    found = []
    pending = [p]
    while pending:
        part = pending.pop()
        found.append(part)
        pending.extend(reasons_in(part)[::-1])
    return found


def rebuilt(p, change):
    """What change(part) tells of a reason, once it was asked of each one within, which it stands for."""
    pending = [(p, False)]
    made = []
    while pending:
        part, ready = pending.pop()
        inner = reasons_in(part)
        if len(inner) == 0:
            made.append(change(part))
        elif ready:
            at = len(made) - len(inner)
            made[at:] = [change(with_reasons(part, made[at:]))]
        else:
            pending.append((part, True))
            pending.extend([(one, False) for one in reversed(inner)])
    return made[0]


def holes_filled(p, fillings):
    """A reason with the n-th of the fillings, a list of reasons, in the place of each hole n."""
    return rebuilt(p, lambda part: fillings[part[1]] if part[0] == "hole" else part)


def reason_nodes(p):
    """How many nodes a reason has: its terms, statements and reasons, each as often as it stands."""
    return sum([1 + sum([nodes(said) for said in said_in(part)]) for part in reasons_of(p)])


def reason_depth(p):
    """Beneath how many other reasons the deepest one in a reason stands."""
    depth = 0
    level = reasons_in(p)
    while level:
        depth += 1
        level = [inner for part in level for inner in reasons_in(part)]
    return depth


def is_great_reason(p):
    """Whether a reason has more nodes than may be, or a reason beneath more than may be; no more is counted."""
    many = 0
    pending = [(p, 0)]
    while pending:
        part, depth = pending.pop()
        many += 1 + sum([nodes(said) for said in said_in(part)])
        if many > MOST_REASON_NODES or depth > MOST_REASON_DEPTH:
            return True
        pending.extend([(inner, depth + 1) for inner in reasons_in(part)])
    return False
