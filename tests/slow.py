"""The same things told once more, by plain recursion, for the tests to hold the program against."""

import itertools
import re


def is_name(thing):
    return (isinstance(thing, str) and re.fullmatch("[a-z]{1,8}", thing) is not None
            and thing not in {"false", "all", "some", "and", "or"})


def is_form_name(thing):
    return isinstance(thing, str) and re.fullmatch("[A-Z][a-z]{0,7}", thing) is not None


def are_terms(args):
    return type(args) is tuple and len(args) <= 4 and all(is_term(arg) for arg in args)


def is_term(thing):
    if type(thing) is not tuple or len(thing) < 2:
        return False
    if thing[0] == "free":
        return len(thing) == 2 and is_name(thing[1])
    if thing[0] == "bound":
        return len(thing) == 2 and type(thing[1]) is int and thing[1] >= 0
    if thing[0] == "form":
        return len(thing) == 3 and is_form_name(thing[1]) and are_terms(thing[2])
    return thing[0] == "call" and len(thing) == 3 and is_name(thing[1]) and are_terms(thing[2])


def is_statement(thing):
    if type(thing) is not tuple or len(thing) == 0:
        return False
    if thing[0] == "false":
        return len(thing) == 1
    if len(thing) != 3:
        return False
    word, one, other = thing
    if word == "same":
        return is_term(one) and is_term(other)
    if word == "atom":
        return is_name(one) and are_terms(other)
    if word in ("and", "or", "if"):
        return is_statement(one) and is_statement(other)
    return word in ("all", "some") and is_name(one) and is_statement(other)


def mapped(thing, put, depth=0):
    """A term or statement with put(leaf, depth) for its leaves."""
    word = thing[0]
    if word in ("free", "bound"):
        return put(thing, depth)
    if word in ("form", "call", "atom"):
        return (word, thing[1], tuple(mapped(arg, put, depth) for arg in thing[2]))
    if word in ("all", "some"):
        return (word, thing[1], mapped(thing[2], put, depth + 1))
    return (word,) + tuple(mapped(part, put, depth) for part in thing[1:])


def leaves(thing):
    found = []

    def put(leaf, depth):
        found.append((leaf, depth))
        return leaf
    mapped(thing, put)
    return found


def parts(thing):
    """What stands straight within a term or statement."""
    if thing[0] in ("form", "call", "atom"):
        return list(thing[2])
    return [part for part in thing[1:] if isinstance(part, tuple)]


def nodes(thing):
    return 1 + sum(nodes(part) for part in parts(thing))


def height(thing):
    return max([1 + height(part) for part in parts(thing)], default=0)


def places(t):
    """All places of a term, in the order of tuples."""
    found = [()]
    for k, arg in enumerate(parts(t)):
        found.extend((k,) + place for place in places(arg))
    return sorted(found)


def at(t, place):
    return t if place == () else at(t[2][place[0]], place[1:])


def put_at(t, place, u):
    if place == ():
        return u
    args = list(t[2])
    args[place[0]] = put_at(args[place[0]], place[1:], u)
    return (t[0], t[1], tuple(args))


def unfolded(rows, t):
    """What comes of a term by a step at its outermost place, None where it can go none."""
    if t[0] != "call":
        return None
    row = [row for row in rows if row[0] in ("given", "short", "rule") and row[1] == t[1]][0]
    args = t[2]
    if row[0] == "short":
        body = row[4]
    elif row[0] == "rule" and args[0][0] == "form":
        forms = [kind[2] for kind in rows if kind[0] == "kind" and kind[1] == row[2][0]][0]
        body = row[4][[pair[0] for pair in forms].index(args[0][1])]
        args = args[0][2] + args[1:]
    else:
        return None
    return mapped(body, lambda leaf, depth: args[leaf[1]])


def first_inmost(rows, t):
    """The place of the first step from the left that has none within it."""
    for k, arg in enumerate(parts(t)):
        found = first_inmost(rows, arg)
        if found is not None:
            return (k,) + found
    return () if unfolded(rows, t) is not None else None


def turns(rows, t):
    told = [t]
    while first_inmost(rows, told[-1]) is not None:
        place = first_inmost(rows, told[-1])
        told.append(put_at(told[-1], place, unfolded(rows, at(told[-1], place))))
    return told


def value_depth(value):
    if isinstance(value, int):
        return 0
    return 1 + max([value_depth(part) for part in value[1]], default=0)


def value_size(value):
    return 1 if isinstance(value, int) else 1 + sum(value_size(part) for part in value[1])


def values(rows, sizes, kind, depth):
    """The values of a kind to a depth, at most 300."""
    if kind in sizes:
        return list(range(sizes[kind]))
    if depth == 0:
        return []
    found = values(rows, sizes, kind, depth - 1)
    forms = [row[2] for row in rows if row[0] == "kind" and row[1] == kind][0]
    for name, kinds in forms:
        for chosen in itertools.product(*[values(rows, sizes, part, depth - 1) for part in kinds]):
            if value_depth((name, chosen)) == depth and len(found) < 300:
                found.append((name, chosen))
    return found


def value(rows, world, env, inner, t):
    if t[0] == "free":
        return env[t[1]]
    if t[0] == "bound":
        return inner[t[1]]
    args = tuple(value(rows, world, env, inner, arg) for arg in t[2])
    if t[0] == "form":
        return (t[1], args)
    row = [row for row in rows if row[0] in ("given", "short", "rule") and row[1] == t[1]][0]
    if row[0] == "given":
        return world[1][t[1]][0].get(args, world[1][t[1]][1])
    if row[0] == "short":
        return value(rows, world, {}, args, row[4])
    forms = [kind[2] for kind in rows if kind[0] == "kind" and kind[1] == row[2][0]][0]
    body = row[4][[pair[0] for pair in forms].index(args[0][0])]
    return value(rows, world, {}, args[0][1] + args[1:], body)


def truth(rows, world, depth, env, inner, A, are_all):
    """The truth of a statement; are_all tells of a kind whether its values to the depth are all."""
    word = A[0]
    if word == "false":
        return False
    if word == "same":
        return value(rows, world, env, inner, A[1]) == value(rows, world, env, inner, A[2])
    if word == "atom":
        args = tuple(value(rows, world, env, inner, arg) for arg in A[2])
        return world[2][A[1]][0].get(args, world[2][A[1]][1])
    if word in ("all", "some"):
        stops = word == "some"
        told = [truth(rows, world, depth, env, (thing,) + inner, A[2], are_all)
                for thing in values(rows, world[0], A[1], depth)]
        if any(one is stops for one in told):
            return stops
        return (not stops) if are_all(A[1]) and all(one is (not stops) for one in told) else None
    left = truth(rows, world, depth, env, inner, A[1], are_all)
    right = truth(rows, world, depth, env, inner, A[2], are_all)
    if word == "if":
        left, word = (None if left is None else not left), "or"
    stops = word == "or"
    if left is stops or right is stops:
        return stops
    return None if left is None or right is None else not stops
