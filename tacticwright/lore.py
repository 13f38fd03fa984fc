"""Lore: a book whose reasons aren't looked at, and what it tells by name."""

from tacticwright.bookrows import head_is_right
from tacticwright.bookrows import inside_is_right
from tacticwright.errors import NoBook
from tacticwright.keeping import is_loose
from tacticwright.keeping import own

MOST_ROWS = 40
FUNCTION_ROWS = ("given", "short", "rule")
FACT_ROWS = ("taken", "reasoned")


class Lore:
    """The rows of a book, refused with NoBook where they are none."""

    def __init__(self, rows):
        if not isinstance(rows, list) or len(rows) > MOST_ROWS:
            raise NoBook()
        self.row_list = []
        self.forms_by_kind = {}
        self.form_kinds = {}
        self.function_rows = {}
        self.word_rows = {}
        self.fact_rows = {}
        self.loose_facts = {}
        for place, row in enumerate(rows):
            if not self.put(row):
                raise NoBook(place)

    def is_borne_out(self, row):
        """Whether a row with a right head, which isn't kept yet, has a right reason; lore looks at none."""
        return True

    def may_put(self, row):
        """Whether a row, of anything, may stand behind the others, its terms and statement not looked at."""
        return len(self.row_list) < MOST_ROWS and head_is_right(self, row) and self.is_borne_out(row)

    def put(self, row):
        """Puts a row, of anything, behind the others; whether it is right there (else the lore is none any more)."""
        if not self.may_put(row):
            return False
        # A rule calls itself, so its row stands here ahead of the look at its terms.
        self.keep(row)
        return inside_is_right(self, row)

    def keep(self, row):
        """Puts a row with a right head behind the others."""
        word, name = row[0], row[1]
        if word == "open":
            self.forms_by_kind[name] = None
        elif word == "kind":
            self.forms_by_kind[name] = row[2]
            for form, kinds in row[2]:
                self.form_kinds[form] = (name, kinds)
        elif word == "atom":
            self.word_rows[name] = row
        elif word in FUNCTION_ROWS:
            self.function_rows[name] = row
        elif is_loose(row):
            # What could be changed from outside is kept, and told, as a copy.
            self.loose_facts[name] = True
            self.fact_rows[name] = own(row)
        else:
            self.fact_rows[name] = row
        self.row_list.append(row)

    def rows(self):
        """The list of the rows."""
        return [self.fact(row[1]) if row[0] in FACT_ROWS else row for row in self.row_list]

    def forms(self, K):
        """The list of the pairs (form, kinds) of a made kind; None for an open one and for none."""
        told = self.forms_by_kind.get(K)
        return None if told is None else list(told)

    def has_kind(self, K):
        """Whether there is a kind of this name."""
        return K in self.forms_by_kind

    def form(self, C):
        """The pair of the kind of a form and the kinds of its parts, or None."""
        return self.form_kinds.get(C)

    def function(self, f):
        """The row of a function, or None."""
        return self.function_rows.get(f)

    def word(self, P):
        """The row of a word, or None."""
        return self.word_rows.get(P)

    def fact(self, h):
        """The row of a fact, or None."""
        row = self.fact_rows.get(h)
        return own(row) if h in self.loose_facts else row
