"""Worlds made of merged terms: each group of terms is a value, and what no term tells is the least there is."""


def least_values(lore):
    """The dict from each kind to one of its values, a made one of as few values as may be."""
    least = {}
    counts = {}
    for row in lore.rows():
        K = row[1]
        if row[0] == "open":
            least[K] = 0
            counts[K] = 1
        elif row[0] == "kind":
            # A form with a part of its own kind makes no least value.
            sizes = [(1 + sum([counts[kind] for kind in kinds]), C, kinds) for C, kinds in row[2] if K not in kinds]
            many, C, kinds = min(sizes, key=lambda told: told[0])
            counts[K] = many
            least[K] = (C, tuple([least[kind] for kind in kinds]))
    return least


def group_values(merging, kinds):
    """The dict from each group to its value, and the one from kinds to how many values these are.

    kinds is the list of the kinds of the terms.
    """
    told = {}
    many = {}
    for group, kind in zip(merging.groups, kinds):
        if group not in told:
            told[group] = many.get(kind, 0)
            many[kind] = told[group] + 1
    return (told, many)


def term_world(lore, merging, kinds, atoms):
    """The world of merged terms of these kinds in which just these atoms are so."""
    told, many = group_values(merging, kinds)
    least = least_values(lore)

    def value_of(number):
        return told[merging.groups[number]]

    def key_of(thing):
        return tuple([value_of(number) for number in merging.numbers(thing)])

    sizes = {}
    tables = {}
    truths = {}
    for row in lore.rows():
        if row[0] == "open":
            sizes[row[1]] = max(1, many.get(row[1], 0))
        elif row[0] == "given":
            calls = [k for k, t in enumerate(merging.terms) if t[0] == "call" and t[1] == row[1]]
            tables[row[1]] = ({key_of(merging.terms[k]): value_of(k) for k in calls}, least[row[3]])
        elif row[0] == "atom":
            truths[row[1]] = ({key_of(X): True for X in atoms if X[1] == row[1]}, False)
    return (sizes, tables, truths)


def thing_values(merging, kinds, things):
    """The dict from the names of things to their values; one that no term speaks of has the first."""
    told, many = group_values(merging, kinds)
    env = {x: 0 for x in things}
    for t, group in zip(merging.terms, merging.groups):
        if t[0] == "free":
            env[t[1]] = told[group]
    return env
