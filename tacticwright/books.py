"""Books: lore whose reasoned rows are looked at, each by the earlier rows."""

from tacticwright.errors import NoReason
from tacticwright.looker import looked
from tacticwright.lore import FACT_ROWS
from tacticwright.lore import Lore
from tacticwright.reasons import facts_in
from tacticwright.reasons import reasons_of
from tacticwright.scopes import is_right
from tacticwright.terms import alike


class Book(Lore):
    """The rows of a book, refused with NoBook where they are none."""

    def __init__(self, rows):
        self.facts_behind = {}
        Lore.__init__(self, rows)

    def is_borne_out(self, row):
        """Whether no earlier reason puts a fact's name behind, and a reasoned row's reason bears out its statement."""
        if row[0] not in FACT_ROWS:
            return True
        if row[1] in self.facts_behind:
            return False
        if row[0] == "taken":
            return True
        try:
            told = looked(self, (), row[3])
        except NoReason:
            return False
        for p in reasons_of(row[3]):
            for h in facts_in(p):
                self.facts_behind[h] = True
        # What stands in the row may be of any kind, so it is looked at ahead of the comparison.
        return is_right(self, {}, [], row[2]) and alike(told, row[2])
