"""The values of a kind to a depth, and how many values a kind has."""

MOST_VALUES = 300


def tuples_of(lists, wanted, reached, room):
    """The first tuples, at most room, of one value of each list, the first changing last, one at least of depth wanted.

    The lists hold pairs of a value and its depth; reached tells whether one of that depth stands ahead already. What
    leads to no tuple is left out at once, for there may be far too many of those.
    """
    if room == 0 or [] in lists:
        return []
    if not reached and not any([pair[1] == wanted for pairs in lists for pair in pairs]):
        return []
    if len(lists) == 0:
        return [()]
    found = []
    for thing, depth in lists[0]:
        more = tuples_of(lists[1:], wanted, reached or depth == wanted, room - len(found))
        found.extend([(thing,) + rest for rest in more])
        if len(found) == room:
            break
    return found


def listed(lore, sizes, K, depth, known):
    """The list of the values of a kind to a depth, in pairs with their depths; known keeps what was listed ahead."""
    if (K, depth) in known:
        return known[(K, depth)]
    forms = lore.forms(K)
    if forms is None:
        found = [(number, 0) for number in range(sizes[K])]
    elif depth == 0:
        found = []
    else:
        found = list(listed(lore, sizes, K, depth - 1, known))
        for C, kinds in forms:
            lists = [listed(lore, sizes, kind, depth - 1, known) for kind in kinds]
            # All that can be made to depth 1 is just 1 deep, also of no parts at all.
            parts = tuples_of(lists, depth - 1, depth == 1, MOST_VALUES - len(found))
            found.extend([((C, part), depth) for part in parts])
    known[(K, depth)] = found
    return found


def form_count(counts, kinds):
    """How many values a form has whose parts are of these kinds."""
    many = 1
    for kind in kinds:
        many *= counts[kind]
    return many


def value_counts(lore, sizes):
    """A dict of how many values each kind has; from 301 on, and where they never end, it tells 301."""
    counts = {}
    for row in lore.rows():
        if row[0] == "open":
            counts[row[1]] = sizes[row[1]]
        elif row[0] == "kind" and any([row[1] in kinds for C, kinds in row[2]]):
            counts[row[1]] = MOST_VALUES + 1
        elif row[0] == "kind":
            many = sum([form_count(counts, kinds) for C, kinds in row[2]])
            counts[row[1]] = min(many, MOST_VALUES + 1)
    return counts
