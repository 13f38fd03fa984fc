"""The rows of a book: which of them are right behind the earlier ones."""

from tacticwright.scopes import is_of_kind
from tacticwright.scopes import is_right
from tacticwright.terms import is_args
from tacticwright.terms import is_form_name
from tacticwright.terms import is_name
from tacticwright.terms import parts_of
from tacticwright.terms import word_of

ROW_LENGTHS = {"kind": 3, "open": 2, "given": 4, "atom": 3, "short": 5, "rule": 5, "taken": 3, "reasoned": 4}
MOST_FORMS = 4
KEPT_FOR_SETTLING = "settle"


def is_kind(lore, thing):
    return is_name(thing) and lore.has_kind(thing)


def are_kinds(lore, thing):
    """Whether thing is a tuple of at most four kinds of earlier rows."""
    return is_args(thing) and all([is_kind(lore, kind) for kind in thing])


def is_pair(thing):
    """Whether thing is a tuple of a form's name and a tuple of at most four names."""
    if not isinstance(thing, tuple) or len(thing) != 2:
        return False
    return is_form_name(thing[0]) and is_args(thing[1]) and all([is_name(kind) for kind in thing[1]])


def forms_are_right(lore, K, forms):
    if not isinstance(forms, tuple) or len(forms) == 0 or len(forms) > MOST_FORMS:
        return False
    seen = set()
    for at, pair in enumerate(forms):
        if not is_pair(pair) or pair[0] in seen or lore.form(pair[0]) is not None:
            return False
        # The first form makes the first things of its kind, so it can't be made of them.
        if not are_kinds(lore, tuple([kind for kind in pair[1] if at == 0 or kind != K])):
            return False
        seen.add(pair[0])
    return True


def kind_is_right(lore, row):
    return not lore.has_kind(row[1]) and forms_are_right(lore, row[1], row[2])


def open_is_right(lore, row):
    return not lore.has_kind(row[1])


def function_is_right(lore, row):
    return lore.function(row[1]) is None and are_kinds(lore, row[2]) and is_kind(lore, row[3])


def rule_is_right(lore, row):
    """Whether the head of a rule is right: a function's, by a made kind, with as many terms as this has forms."""
    if not function_is_right(lore, row) or len(row[2]) == 0 or lore.forms(row[2][0]) is None:
        return False
    return isinstance(row[4], tuple) and len(row[4]) == len(lore.forms(row[2][0]))


def word_is_right(lore, row):
    return lore.word(row[1]) is None and are_kinds(lore, row[2])


def fact_is_right(lore, row):
    return lore.fact(row[1]) is None and not row[1].startswith(KEPT_FOR_SETTLING)


HEADS = {
    "kind": kind_is_right,
    "open": open_is_right,
    "given": function_is_right,
    "atom": word_is_right,
    "short": function_is_right,
    "rule": rule_is_right,
    "taken": fact_is_right,
    "reasoned": fact_is_right,
}


def head_is_right(lore, thing):
    """Whether thing is a row, of anything, right but for its terms and statement, which its inside has."""
    word = word_of(thing)
    if word not in ROW_LENGTHS or len(thing) != ROW_LENGTHS[word] or not is_name(thing[1]):
        return False
    is_right_head = HEADS[word]
    return is_right_head(lore, thing)


def calls_of(t, f):
    """The list of the calls of f in a term."""
    calls = []
    pending = [t]
    while pending:
        part = pending.pop()
        if part[0] == "call" and part[1] == f:
            calls.append(part)
        pending.extend(parts_of(part))
    return calls


def goes_inward(call, kinds, K):
    """Whether the first arg of a call is a bound that is a part of kind K, kinds being those of the parts."""
    first = call[2][0]
    return first[0] == "bound" and first[1] < len(kinds) and kinds[first[1]] == K


def short_inside_is_right(lore, row):
    word, f, kinds, K, t = row
    return is_of_kind(lore, {}, list(kinds), t, K) and len(calls_of(t, f)) == 0


def rule_inside_is_right(lore, row):
    word, f, kinds, K, terms = row
    for pair, t in zip(lore.forms(kinds[0]), terms):
        if not is_of_kind(lore, {}, list(pair[1]) + list(kinds[1:]), t, K):
            return False
        if not all([goes_inward(call, pair[1], kinds[0]) for call in calls_of(t, f)]):
            return False
    return True


def inside_is_right(lore, row):
    """Whether the terms and the statement are right of a row that the lore keeps already."""
    if row[0] == "short":
        return short_inside_is_right(lore, row)
    if row[0] == "rule":
        return rule_inside_is_right(lore, row)
    if row[0] == "taken" or row[0] == "reasoned":
        return is_right(lore, {}, [], row[2])
    return True
