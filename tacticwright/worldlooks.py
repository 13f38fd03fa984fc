"""What is a value of a kind, and what is a world of a book, of anything."""

from tacticwright.terms import is_count
from tacticwright.terms import word_of

MOST_SIZE = 12
DEEPEST_VALUE = 60
GREATEST_VALUE = 2000


def is_too_great(thing):
    """Whether a value is deeper, or of more values, than may be."""
    many = 0
    level = [thing]
    # Behind this loop the level is of those beneath as many as a value may be deep: no made one has room there.
    for depth in range(DEEPEST_VALUE):
        many += len(level)
        if many > GREATEST_VALUE:
            return True
        level = [part for made in level if isinstance(made, tuple) for part in made[1]]
        if len(level) == 0:
            return False
    many += len(level)
    return many > GREATEST_VALUE or any([isinstance(made, tuple) for made in level])


def part_kinds(lore, K, thing):
    """The kinds of the parts of a value of a made kind, None where thing is none."""
    if word_of(thing) is None or len(thing) != 2 or not isinstance(thing[1], tuple):
        return None
    told = lore.form(thing[0])
    if told is None or told[0] != K or len(told[1]) != len(thing[1]):
        return None
    return told[1]


def is_value(lore, sizes, K, thing):
    """Whether thing, of anything, is a value of a kind."""
    pending = [(K, thing)]
    many = 0
    while pending:
        kind, part = pending.pop()
        many += 1
        if many > GREATEST_VALUE:
            return False
        if lore.forms(kind) is None:
            if not is_count(part) or part >= sizes[kind]:
                return False
        else:
            kinds = part_kinds(lore, kind, part)
            if kinds is None:
                return False
            pending.extend(list(zip(kinds, part[1])))
    return not is_too_great(thing)


def are_values(lore, sizes, kinds, thing):
    """Whether thing, of anything, is a tuple of values of these kinds."""
    if not isinstance(thing, tuple) or len(thing) != len(kinds):
        return False
    return all([is_value(lore, sizes, kind, part) for kind, part in zip(kinds, thing)])


def has_just(thing, names):
    """Whether thing, of anything, is a dict that has just these names as its keys."""
    return isinstance(thing, dict) and len(thing) == len(names) and all([name in thing for name in names])


def is_size(thing):
    return is_count(thing) and thing > 0 and thing <= MOST_SIZE


def is_table(lore, sizes, kinds, thing, is_told):
    """Whether thing, of anything, is a table by values of these kinds of what is_told says may be told."""
    if not isinstance(thing, tuple) or len(thing) != 2 or not isinstance(thing[0], dict):
        return False
    for key, told in thing[0].items():
        if not are_values(lore, sizes, kinds, key) or not is_told(told):
            return False
    return is_told(thing[1])


def is_function_table(lore, sizes, row, thing):
    return is_table(lore, sizes, row[2], thing, lambda told: is_value(lore, sizes, row[3], told))


def is_word_table(lore, sizes, row, thing):
    return is_table(lore, sizes, row[2], thing, lambda told: isinstance(told, bool))


def is_world(lore, thing):
    """Whether thing, of anything, is a world of a book."""
    if not isinstance(thing, tuple) or len(thing) != 3:
        return False
    sizes, tables, truths = thing
    kinds = [row[1] for row in lore.rows() if row[0] == "open"]
    functions = [row for row in lore.rows() if row[0] == "given"]
    words = [row for row in lore.rows() if row[0] == "atom"]
    if not has_just(sizes, kinds) or not all([is_size(sizes[kind]) for kind in kinds]):
        return False
    if not has_just(tables, [row[1] for row in functions]) or not has_just(truths, [row[1] for row in words]):
        return False
    if not all([is_function_table(lore, sizes, row, tables[row[1]]) for row in functions]):
        return False
    return all([is_word_table(lore, sizes, row, truths[row[1]]) for row in words])
