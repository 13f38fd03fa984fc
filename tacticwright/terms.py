"""Terms: what is one, what stands in it, and its places.

What is said here of nodes and of parts holds of statements, too, so that both are walked by one way.
"""

KEPT_WORDS = ("false", "all", "some", "and", "or")
SMALL_LETTERS = "abcdefghijklmnopqrstuvwxyz"
GREAT_LETTERS = "ABCDEFGHIJKLMNOPQRSTUVWXYZ"
LONGEST_NAME = 8
MOST_ARGS = 4
MOST_NODES = 2000
MOST_DEPTH = 60

LEAF_WORDS = ("free", "bound")
TERM_WORDS = ("free", "bound", "form", "call")
ARGS_WORDS = ("form", "call", "atom")
JOIN_WORDS = ("and", "or", "if")
PAIR_WORDS = ("same", "and", "or", "if")
BIND_WORDS = ("all", "some")


def are_small(text):
    return all([sign in SMALL_LETTERS for sign in text])


def is_short_text(thing):
    return isinstance(thing, str) and len(thing) > 0 and len(thing) <= LONGEST_NAME


def is_name(thing):
    """Whether thing is a name, of anything."""
    return is_short_text(thing) and are_small(thing) and thing not in KEPT_WORDS


def is_form_name(thing):
    """Whether thing is the name of a form, of anything."""
    return is_short_text(thing) and thing[0] in GREAT_LETTERS and are_small(thing[1:])


def is_count(thing):
    """Whether thing is a whole number from 0 on, of anything."""
    return isinstance(thing, int) and not isinstance(thing, bool) and thing >= 0


def word_of(thing):
    """The first word of a tuple, None where thing is no such tuple, of anything."""
    if isinstance(thing, tuple) and len(thing) > 0 and isinstance(thing[0], str):
        return thing[0]
    return None


def is_args(thing):
    return isinstance(thing, tuple) and len(thing) <= MOST_ARGS


def is_term_node(thing):
    """Whether thing is a term as far as it can be seen without a look at its args."""
    word = word_of(thing)
    if word == "free":
        return len(thing) == 2 and is_name(thing[1])
    if word == "bound":
        return len(thing) == 2 and is_count(thing[1])
    if word == "form":
        return len(thing) == 3 and is_form_name(thing[1]) and is_args(thing[2])
    if word == "call":
        return len(thing) == 3 and is_name(thing[1]) and is_args(thing[2])
    return False


def is_term(thing):
    """Whether thing is a term, of anything."""
    pending = [thing]
    while pending:
        part = pending.pop()
        if not is_term_node(part):
            return False
        pending.extend(parts_of(part))
    return True


def parts_of(thing):
    """The terms and statements straight within a term or statement, from the left."""
    word = thing[0]
    if word in ARGS_WORDS:
        return thing[2]
    if word in PAIR_WORDS:
        return (thing[1], thing[2])
    if word in BIND_WORDS:
        return (thing[2],)
    return ()


def with_parts(thing, parts):
    """A term or statement with other ones in the places of those straight within it."""
    word = thing[0]
    if word in ARGS_WORDS:
        return (word, thing[1], tuple(parts))
    if word in PAIR_WORDS:
        return (word, parts[0], parts[1])
    if word in BIND_WORDS:
        return (word, thing[1], parts[0])
    return thing


def folded(thing, tell, stops=()):
    """What tell(part, depth, made) tells of a term or statement, once it was asked of all that stands within.

    depth is how many alls and somes stand around the part, made the list of what was told of those straight
    within it; a part whose word is among stops is not gone into. It goes by a list of what is still to do, not by
    calls within calls, for what was told may be handed in again, however deep it is.
    """
    pending = [(thing, 0, False)]
    made = []
    while pending:
        part, depth, ready = pending.pop()
        parts = () if part[0] in stops else parts_of(part)
        if ready or len(parts) == 0:
            at = len(made) - len(parts)
            made[at:] = [tell(part, depth, made[at:])]
        else:
            inner = depth + 1 if part[0] in BIND_WORDS else depth
            pending.append((part, depth, True))
            pending.extend([(one, inner, False) for one in reversed(parts)])
    return made[0]


def leaves_put(thing, put):
    """A term or statement with put(leaf, depth) in the place of each free and bound."""
    def tell(part, depth, made):
        if part[0] in LEAF_WORDS:
            return put(part, depth)
        return with_parts(part, made)
    return folded(thing, tell)


def nodes(thing):
    """How many nodes a term or statement has."""
    many = 0
    pending = [thing]
    while pending:
        part = pending.pop()
        many += 1
        pending.extend(parts_of(part))
    return many


def head_of(thing):
    """A term's or statement's word, its name or number, and how many stand straight within it."""
    word = thing[0]
    named = None if word == "false" or word in PAIR_WORDS else thing[1]
    return (word, named, len(parts_of(thing)))


def alike(one, other):
    """Whether two terms or statements are the same.

    Python's own comparison goes by calls within calls, and these may be as deep as whatever was told.
    """
    pending = [(one, other)]
    while pending:
        part, twin = pending.pop()
        if head_of(part) != head_of(twin):
            return False
        pending.extend(list(zip(parts_of(part), parts_of(twin))))
    return True


def is_great(thing):
    """Whether a term or statement has more nodes than may be, or one beneath more than may be."""
    many = 0
    level = [thing]
    for depth in range(MOST_DEPTH + 1):
        many += len(level)
        if many > MOST_NODES:
            return True
        level = [inner for part in level for inner in parts_of(part)]
        if len(level) == 0:
            return False
    return True


def free_in(thing):
    """The sorted list of the free names of a term or statement."""
    names = set()
    pending = [thing]
    while pending:
        part = pending.pop()
        if part[0] == "free":
            names.add(part[1])
        pending.extend(parts_of(part))
    return sorted(names)


def has_free(thing, names):
    """Whether one of these names is free in a term or statement."""
    found = free_in(thing)
    return any([name in found for name in names])


def at_place(t, place):
    """The term at a place of t, None where there is no such place."""
    part = t
    for k in place:
        parts = parts_of(part)
        if k < 0 or k >= len(parts):
            return None
        part = parts[k]
    return part


def with_place(t, place, u):
    """The term t with u at a place that is there; of a statement, too, a place going by its parts."""
    around = []
    part = t
    for k in place:
        around.append(part)
        part = parts_of(part)[k]
    made = u
    for k in place[::-1]:
        part = around.pop()
        parts = list(parts_of(part))
        parts[k] = made
        made = with_parts(part, parts)
    return made


def args_put(t, args):
    """The term t with args in the places of its bounds, all at once; a bound beyond them stays."""
    def put(leaf, depth):
        if leaf[0] == "bound" and leaf[1] < len(args):
            return args[leaf[1]]
        return leaf
    return leaves_put(t, put)
