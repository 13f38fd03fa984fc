"""Readers: a text, the sign that is come to, what was made of those ahead, and what is still to be read.

What is still to be read is kept in a list, the next last, not in calls within calls, for texts may be deep.
"""

from tacticwright.errors import NoWords
from tacticwright.terms import is_name

LETTERS = "abcdefghijklmnopqrstuvwxyzABCDEFGHIJKLMNOPQRSTUVWXYZ"
FIGURES = "0123456789"


class Reader:
    """The reading of a text; names are those that bounds are written by, the one of ("bound", 0) last."""

    def __init__(self, text, names):
        if not isinstance(text, str):
            raise NoWords()
        self.text = text
        self.at = 0
        self.names = names
        self.made = []
        self.pending = []

    def sees(self, piece):
        """Whether this text stands next."""
        return self.text[self.at:self.at + len(piece)] == piece

    def skip(self, piece):
        """Goes on behind this text, which is to stand next."""
        if not self.sees(piece):
            raise NoWords()
        self.at += len(piece)

    def run_of(self, signs):
        """The longest text of these signs that stands next; goes on behind it."""
        start = self.at
        while self.at < len(self.text) and self.text[self.at] in signs:
            self.at += 1
        return self.text[start:self.at]

    def letters(self):
        """The word, perhaps an empty one, that stands next; goes on behind it."""
        return self.run_of(LETTERS)

    def next_name(self):
        """The name that is to stand next; goes on behind it."""
        name = self.letters()
        if not is_name(name):
            raise NoWords()
        return name

    def listed_names(self, close):
        """The list of the names, parted by a comma and a blank, up to a text behind them; goes on behind this."""
        names = []
        while not self.sees(close):
            if names:
                self.skip(", ")
            names.append(self.next_name())
        self.skip(close)
        return names

    def spaced_names(self):
        """The list of the names, one blank between each two, that stand next; goes on behind them."""
        names = []
        if self.at < len(self.text) and self.text[self.at] in LETTERS:
            names.append(self.next_name())
            while self.sees(" ") and not self.sees(" |"):
                self.skip(" ")
                names.append(self.next_name())
        return names

    def later(self, rows):
        """Has these read next, the first of them first."""
        self.pending.extend(rows[::-1])

    def make(self, head, many):
        """Puts one tuple, head and as many things as were made last, in their place."""
        at = len(self.made) - many
        self.made[at:] = [head + tuple(self.made[at:])]

    def end(self):
        """Refuses a text of which something is left."""
        if self.at != len(self.text):
            raise NoWords()
