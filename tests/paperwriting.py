"""The lines of a paper that tell the rows of a book."""

from samples import free
from tacticwright.writing import show_statement, show_term

NAMES = ["xa", "xb", "xc", "xd", "xe", "xf", "xg", "xh"]


def heads(kinds):
    return "(" + ", ".join(kinds) + ")"


def named(t):
    """The text of a term whose bounds are written by the names, that of 0 first."""
    def told(part):
        if part[0] == "bound":
            return free(NAMES[part[1]])
        return part[:2] + (tuple(told(arg) for arg in part[2]),) if part[0] in ("form", "call") else part
    return show_term(told(t))


def rule_lines(forms, row):
    word, f, kinds, kind, terms = row
    lines = ["rule " + f + heads(kinds) + " " + kind]
    for (C, parts), t in zip(forms[kinds[0]], terms):
        xs, others = NAMES[:len(parts)], NAMES[len(parts):len(parts) + len(kinds) - 1]
        lines.append(" ".join(["|", C + (heads(xs) if xs else "")] + others + ["=", named(t)]))
    return lines


def row_lines(forms, row):
    word = row[0]
    if word == "open":
        return ["open " + row[1]]
    if word == "kind":
        return ["kind " + row[1] + " = " + " ".join(C + (heads(kinds) if kinds else "") for C, kinds in row[2])]
    if word == "given":
        return ["given " + row[1] + heads(row[2]) + " " + row[3]]
    if word == "atom":
        return ["word " + row[1] + heads(row[2])]
    if word == "short":
        args = [NAMES[k] + " " + kind for k, kind in enumerate(row[2])]
        return ["short " + row[1] + heads(args) + " " + row[3] + " = " + named(row[4])]
    return rule_lines(forms, row) if word == "rule" else ["taken " + row[1] + ": " + show_statement(row[2])]


def paper_lines(rows):
    forms = {row[1]: row[2] for row in rows if row[0] == "kind"}
    return [line for row in rows for line in row_lines(forms, row)]
