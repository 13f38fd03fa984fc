"""Reading: texts as terms, statements, reasons and tactics; what writes none is refused with NoWords.

Rows of what is still to be read are tuples of a sort and what it needs; a thing that was read is put behind those that
were made ahead of it.
"""

from tacticwright.errors import NoWords
from tacticwright.readers import FIGURES
from tacticwright.readers import Reader
from tacticwright.reasons import REASON_PARTS
from tacticwright.tacticparts import TACTIC_PARTS
from tacticwright.tacticparts import WAYS
from tacticwright.terms import BIND_WORDS
from tacticwright.terms import MOST_ARGS
from tacticwright.terms import is_form_name
from tacticwright.terms import is_name
from tacticwright.writing import JOINTS

MOST_FIGURES = 9


def read_text(reader, row):
    reader.skip(row[1])


def read_make(reader, row):
    word, head, many = row
    reader.make(head, many)


def read_list(reader, row):
    """Reads things of a sort, parted by a comma and a blank, up to a text that closes them."""
    word, sort, close = row
    if reader.sees(close):
        reader.skip(close)
        reader.make((), 0)
    else:
        reader.later([(sort,), ("more", sort, close, 1)])


def read_more(reader, row):
    """Goes on in a list of which so many things were read."""
    word, sort, close, many = row
    if reader.sees(close):
        reader.skip(close)
        reader.make((), many)
    else:
        reader.skip(", ")
        reader.later([(sort,), ("more", sort, close, many + 1)])


def read_few(reader, row):
    """Refuses args that are more than may be."""
    if len(reader.made[-1]) > MOST_ARGS:
        raise NoWords()


def leaf_of(names, x):
    """What a name stands for: the innermost bound that is written by it, else a free."""
    for k, name in enumerate(reversed(names)):
        if name == x:
            return ("bound", k)
    return ("free", x)


def read_term_row(reader, row):
    word = reader.letters()
    if not is_form_name(word) and not is_name(word):
        raise NoWords()
    head = ("form" if is_form_name(word) else "call", word)
    if reader.sees("("):
        reader.skip("(")
        # A form without args has no brackets, so here it has one at least.
        first = [("list", "term", ")")] if head[0] == "call" else [("term",), ("more", "term", ")", 1)]
        reader.later(first + [("few",), ("make", head, 1)])
    else:
        reader.made.append(head + ((),) if head[0] == "form" else leaf_of(reader.names, word))


def read_leave(reader, row):
    reader.names.pop()


def read_bound_row(reader, x, head):
    """Reads a statement in which a bound is written by x, and makes head and it one."""
    reader.skip(": ")
    reader.names.append(x)
    reader.later([("statement",), ("leave",)] + ([] if head is None else [("make", head, 1)]))


def read_body(reader, row):
    read_bound_row(reader, reader.next_name(), None)


def read_statement_row(reader, row):
    if reader.sees("("):
        reader.skip("(")
        reader.later([("statement",), ("joint",)])
        return
    start = reader.at
    word = reader.letters()
    if word == "false":
        reader.made.append(("false",))
    elif word in BIND_WORDS:
        reader.skip(" ")
        x = reader.next_name()
        reader.skip(" ")
        read_bound_row(reader, x, (word, reader.next_name()))
    else:
        reader.at = start
        reader.later([("term",), ("same or atom",)])


def read_joint(reader, row):
    """Reads the word between the two sides of an and, or or if, and then the second one."""
    for word, piece in JOINTS.items():
        if reader.sees(piece):
            reader.skip(piece)
            reader.later([("statement",), ("text", ")"), ("make", (word,), 2)])
            return
    raise NoWords()


def read_same_or_atom(reader, row):
    """Goes on behind a term: it is the first of a same, or what looked like a call is an atom."""
    if reader.sees(" = "):
        reader.skip(" = ")
        reader.later([("term",), ("make", ("same",), 2)])
        return
    t = reader.made.pop()
    if t[0] != "call":
        raise NoWords()
    reader.made.append(("atom", t[1], t[2]))


def read_name(reader, row):
    reader.made.append(reader.next_name())


def read_way(reader, row):
    word = reader.letters()
    if word not in WAYS:
        raise NoWords()
    reader.made.append(word)


def read_number(reader, row):
    figures = reader.run_of(FIGURES)
    if len(figures) == 0 or len(figures) > MOST_FIGURES or (figures[0] == "0" and figures != "0"):
        raise NoWords()
    reader.made.append(int(figures))


def read_spaced(reader, row):
    reader.made.append(tuple(reader.spaced_names()))


def read_names(reader, row):
    reader.later([("text", "["), ("list", "name", "]")])


def read_terms(reader, row):
    reader.later([("text", "["), ("list", "term", "]")])


def read_tactics(reader, row):
    reader.later([("text", "["), ("list", "tactic", "]")])


def read_rows(reader, row):
    reader.later([("text", "["), ("list", row[0] + " row", "]")])


def read_row_of(reader, rows):
    """Reads the parts of a row, joined by a stroke between blanks."""
    joined = [rows[0]]
    for one in rows[1:]:
        joined.extend([("text", " | "), one])
    reader.later(joined + [("make", (), len(rows))])


def read_induct_row(reader, row):
    read_row_of(reader, [("spaced",), ("spaced",), ("reason",)])


def read_forms_row(reader, row):
    read_row_of(reader, [("spaced",), ("name",), ("reason",)])


def read_induct_names(reader, row):
    read_row_of(reader, [("spaced",), ("spaced",)])


def read_cases_names(reader, row):
    read_row_of(reader, [("spaced",), ("name",)])


def read_worded(reader, word, sorts):
    """Reads, in brackets, the parts behind a word, of these sorts."""
    rows = [("text", "(")]
    for k, sort in enumerate(sorts):
        rows.extend([("text", ", "), (sort,)] if k > 0 else [(sort,)])
    reader.later(rows + [("text", ")"), ("make", (word,), len(sorts))])


def read_reason_row(reader, row):
    word = reader.letters()
    if word not in REASON_PARTS:
        raise NoWords()
    read_worded(reader, word, REASON_PARTS[word])


def read_tactic_row(reader, row):
    word = reader.letters()
    if word not in TACTIC_PARTS:
        raise NoWords()
    read_worded(reader, word, TACTIC_PARTS[word])


READS = {
    "text": read_text,
    "make": read_make,
    "list": read_list,
    "more": read_more,
    "few": read_few,
    "leave": read_leave,
    "joint": read_joint,
    "same or atom": read_same_or_atom,
    "term": read_term_row,
    "statement": read_statement_row,
    "body": read_body,
    "reason": read_reason_row,
    "tactic": read_tactic_row,
    "h": read_name,
    "x": read_name,
    "K": read_name,
    "name": read_name,
    "way": read_way,
    "number": read_number,
    "spaced": read_spaced,
    "names": read_names,
    "terms": read_terms,
    "tactics": read_tactics,
    "induct rows": read_rows,
    "forms rows": read_rows,
    "induct names": read_rows,
    "cases names": read_rows,
    "induct rows row": read_induct_row,
    "forms rows row": read_forms_row,
    "induct names row": read_induct_names,
    "cases names row": read_cases_names,
}


def read_by(sort, text, names):
    """The thing of this sort that a text, of anything, writes, bounds being written by names, that of 0 last."""
    reader = Reader(text, list(names))
    reader.later([(sort,)])
    while reader.pending:
        row = reader.pending.pop()
        read_next = READS[row[0]]
        read_next(reader, row)
    reader.end()
    return reader.made[0]


def read_term(text):
    """The term that a text, of anything, writes."""
    return read_by("term", text, [])


def read_statement(text):
    """The statement that a text, of anything, writes."""
    return read_by("statement", text, [])


def read_reason(text):
    """The reason that a text, of anything, writes."""
    return read_by("reason", text, [])


def read_tactic(text):
    """The tactic that a text, of anything, writes."""
    return read_by("tactic", text, [])
