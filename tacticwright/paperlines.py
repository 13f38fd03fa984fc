"""The lines of papers, one by one: what row, or what part of one, each of them tells; else NoWords, without a place."""

from tacticwright.contexts import are_unlike
from tacticwright.errors import NoWords
from tacticwright.readers import Reader
from tacticwright.reading import read_by
from tacticwright.terms import is_form_name


def bracketed(reader):
    """The tuple of the names in brackets that stand next."""
    reader.skip("(")
    return tuple(reader.listed_names(")"))


def form_head(reader):
    """The form's name that stands next and the names in brackets behind it, which has none without any."""
    C = reader.letters()
    if not is_form_name(C):
        raise NoWords()
    if not reader.sees("("):
        return (C, ())
    names = bracketed(reader)
    if len(names) == 0:
        raise NoWords()
    return (C, names)


def rest_read(reader, sort, names):
    """What the rest of a line writes, bounds being written by names, that of 0 first."""
    if not are_unlike(names):
        raise NoWords()
    return read_by(sort, reader.text[reader.at:], list(names)[::-1])


def kind_line(reader):
    K = reader.next_name()
    reader.skip(" = ")
    forms = [form_head(reader)]
    while reader.sees(" "):
        reader.skip(" ")
        forms.append(form_head(reader))
    reader.end()
    return ("kind", K, tuple(forms))


def open_line(reader):
    K = reader.next_name()
    reader.end()
    return ("open", K)


def function_line(reader, word):
    f = reader.next_name()
    kinds = bracketed(reader)
    reader.skip(" ")
    K = reader.next_name()
    reader.end()
    return (word, f, kinds, K)


def given_line(reader):
    return function_line(reader, "given")


def rule_line(reader):
    return function_line(reader, "rule")


def word_line(reader):
    P = reader.next_name()
    kinds = bracketed(reader)
    reader.end()
    return ("atom", P, kinds)


def args_of_short(reader):
    """The list of the pairs of an arg's name and kind, in brackets, that stand next."""
    reader.skip("(")
    pairs = []
    while not reader.sees(")"):
        if pairs:
            reader.skip(", ")
        x = reader.next_name()
        reader.skip(" ")
        pairs.append((x, reader.next_name()))
    reader.skip(")")
    return pairs


def short_line(reader):
    f = reader.next_name()
    pairs = args_of_short(reader)
    reader.skip(" ")
    K = reader.next_name()
    reader.skip(" = ")
    t = rest_read(reader, "term", [x for x, kind in pairs])
    return ("short", f, tuple([kind for x, kind in pairs]), K, t)


def fact_line(reader, word):
    h = reader.next_name()
    reader.skip(": ")
    return (word, h, rest_read(reader, "statement", []))


def taken_line(reader):
    return fact_line(reader, "taken")


def claim_line(reader):
    return fact_line(reader, "claim")


LINES = {
    "kind": kind_line,
    "open": open_line,
    "given": given_line,
    "word": word_line,
    "short": short_line,
    "rule": rule_line,
    "taken": taken_line,
    "claim": claim_line,
}


def line_read(line):
    """The row that a line tells: of a rule all but its terms; of a claim its word, name and statement."""
    reader = Reader(line, [])
    word = reader.letters()
    if word not in LINES:
        raise NoWords()
    reader.skip(" ")
    read_on = LINES[word]
    return read_on(reader)


def form_line_read(line):
    """What a line behind a rule tells of a form: its name, how many parts and other args it names, and the term."""
    reader = Reader(line, [])
    reader.skip("| ")
    C, xs = form_head(reader)
    others = []
    while not reader.sees(" = "):
        reader.skip(" ")
        others.append(reader.next_name())
    reader.skip(" = ")
    return (C, len(xs), len(others), rest_read(reader, "term", list(xs) + others))
