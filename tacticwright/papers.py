"""Papers: lines that make a book, claims among them with the tactics that are done for them."""

from tacticwright.bookrows import function_is_right
from tacticwright.bookrows import inside_is_right
from tacticwright.books import Book
from tacticwright.errors import NoTactic
from tacticwright.errors import NoWords
from tacticwright.errors import Stuck
from tacticwright.errors import TooGreat
from tacticwright.errors import TooLong
from tacticwright.paperlines import form_line_read
from tacticwright.paperlines import line_read
from tacticwright.reading import read_tactic
from tacticwright.reasons import reason_nodes
from tacticwright.reckoning import reckoned
from tacticwright.running import made_of
from tacticwright.running import ran
from tacticwright.works import Work
from tacticwright.writing import show_term

ENDS = ("run", "end")
INDENT = "  "


class Paper:
    """The lines, the number from 0 of the one that is come to, the book so far, and what is told so far."""

    def __init__(self, lines):
        self.lines = lines
        self.at = 0
        self.book = Book([])
        self.barred = {}
        self.answers = []

    def line(self):
        """The line that is come to; where there is none, the paper is refused at the number behind the last."""
        if self.at == len(self.lines):
            raise NoWords(self.at + 1)
        return self.lines[self.at]

    def has_line(self, start):
        """Whether a line that begins so is come to."""
        return self.at < len(self.lines) and self.lines[self.at].startswith(start)


def at_line(number, read, line):
    """What a line tells, refused with its number, here from 0."""
    try:
        return read(line)
    except NoWords:
        raise NoWords(number + 1) from None


def want_line(so, number):
    """Refuses a paper where the line of this number, from 0, isn't right."""
    if not so:
        raise NoWords(number + 1)


def rule_terms(paper, first, forms, others):
    """The tuple of the terms in the lines behind a rule's first one, for these forms and so many other args."""
    terms = []
    while paper.has_line("|"):
        C, parts, more, t = at_line(paper.at, form_line_read, paper.line())
        fits = len(terms) < len(forms) and (C, parts) == (forms[len(terms)][0], len(forms[len(terms)][1]))
        # A line that is none of a form's makes the row wrong, as a term of another kind does.
        want_line(fits and more == others, first)
        terms.append(t)
        paper.at += 1
    return tuple(terms)


def rule_put(paper, row):
    """Puts a rule into the book, its first line being read already."""
    first = paper.at - 1
    kinds = row[2]
    want_line(len(kinds) > 0 and function_is_right(paper.book, row), first)
    forms = paper.book.forms(kinds[0])
    want_line(forms is not None, first)
    want_line(paper.book.put(row + (rule_terms(paper, first, forms, len(kinds) - 1),)), first)


def tactics_read(paper):
    """The list of the tactics of a claim, and the word behind them, run or end."""
    tactics = []
    line = paper.line()
    while line not in ENDS:
        want_line(line.startswith(INDENT), paper.at)
        tactics.append(at_line(paper.at, read_tactic, line[len(INDENT):]))
        paper.at += 1
        line = paper.line()
    paper.at += 1
    return (tactics, line)


def run_answer(book, p):
    """What a run of a reason comes to, as a word or as the text of a term."""
    try:
        made = made_of(ran(book, p))
        if made[0] == "with":
            return show_term(reckoned(book, made[1]))
    except (Stuck, TooLong, TooGreat):
        return "stuck"
    return made[0] if made[0] == "left" or made[0] == "right" else "stands"


def first_failing(work, tactics):
    """Does the tactics one by one; the number, from 1, of the first that fails, None where none does."""
    for k, tactic in enumerate(tactics):
        try:
            work.do(tactic)
        except NoTactic:
            return k + 1
    return None


def claim_answer(paper, h, A, tactics, end):
    """What is told of a claim; where it is reasoned, its row is put into the book."""
    work = Work(paper.book, A)
    failing = first_failing(work, tactics)
    left = len(work.goals())
    if failing is None and left == 0:
        p = work.reason()
        ran_to = " " + run_answer(paper.book, p) if end == "run" else ""
        paper.book.put(("reasoned", h, A, p))
        return f"{h} reasoned {reason_nodes(p)}{ran_to}"
    paper.barred[h] = True
    return f"{h} open {left}" if failing is None else f"{h} fails {failing}"


def claim_done(paper, row):
    """Looks at a claim, its line being read already, reads its tactics, and does them."""
    word, h, A = row
    as_taken = ("taken", h, A)
    want_line(paper.book.may_put(as_taken) and inside_is_right(paper.book, as_taken), paper.at - 1)
    tactics, end = tactics_read(paper)
    paper.answers.append(claim_answer(paper, h, A, tactics, end))


def go_on(paper):
    """Reads the line that is come to, and those that belong to it."""
    row = at_line(paper.at, line_read, paper.line())
    # Of a claim that isn't reasoned the name is kept, and no later row has it.
    want_line(row[0] not in ("taken", "claim") or row[1] not in paper.barred, paper.at)
    paper.at += 1
    if row[0] == "rule":
        rule_put(paper, row)
    elif row[0] == "claim":
        claim_done(paper, row)
    else:
        want_line(paper.book.put(row), paper.at - 1)


def answered(text):
    """The text that is told of a paper, a line for each claim; NoWords of what is none, of anything."""
    if not isinstance(text, str):
        raise NoWords()
    paper = Paper(text.split("\n"))
    while paper.at < len(paper.lines):
        go_on(paper)
    return "\n".join(paper.answers)
