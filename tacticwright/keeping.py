"""Things of any kind kept as one's own: where lists or dicts stand in them, as a copy.

A reason that nobody looks at may be anything, a list that holds itself among it; so a walk ends after a bound, and
what is greater is kept as it is.
"""

LONGEST_WALK = 50000


def held_by(thing):
    """The list of what a list, tuple or dict holds, None of what is none of these."""
    if isinstance(thing, dict):
        return list(thing.values())
    if isinstance(thing, (list, tuple)):
        return list(thing)
    return None


def is_loose(thing):
    """Whether a list or dict stands in thing, so that somebody else may change it."""
    pending = [thing]
    walked = 0
    while pending and walked < LONGEST_WALK:
        part = pending.pop()
        if isinstance(part, (list, dict)):
            return True
        pending.extend(held_by(part) or [])
        walked += 1
    return False


def holding(thing, held):
    """A new list, tuple or dict like thing that holds these."""
    if isinstance(thing, dict):
        return dict(zip(thing.keys(), held))
    return tuple(held) if isinstance(thing, tuple) else held


def own(thing):
    """A copy of thing in which each list, tuple and dict is new."""
    pending = [(thing, False)]
    made = []
    walked = 0
    while pending:
        part, ready = pending.pop()
        held = held_by(part)
        walked += 1
        if walked > LONGEST_WALK:
            return thing
        if held is None:
            made.append(part)
        elif ready:
            at = len(made) - len(held)
            made[at:] = [holding(part, made[at:])]
        else:
            pending.append((part, True))
            pending.extend([(one, False) for one in reversed(held)])
    return made[0]
