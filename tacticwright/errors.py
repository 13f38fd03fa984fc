"""The refusals of the program, each a class of its own."""


class TacticError(ValueError):
    """Any refusal; place tells where the fault lies, or is None."""

    def __init__(self, place=None):
        self.place = place


class NoTerm(TacticError):
    """No term, or no statement, that is right by the book and scopes at hand."""


class NoBook(TacticError):
    """No book; place is the number of the first row that isn't right."""


class NoWorld(TacticError):
    """No world of the book at hand."""


class NoReason(TacticError):
    """No reason; place is the way to the first one at fault."""


class NoTactic(TacticError):
    """A tactic that fails, or a deed that can't be done."""


class TooLong(TacticError):
    """More steps, calls or looks than may be gone."""


class TooGreat(TacticError):
    """A thing on the way that is greater or deeper than may be."""


class Stuck(TacticError):
    """A reason that can't be run further, for something in it is left open."""


class NoWords(TacticError):
    """No text of the form wanted; of a paper, place is the number of the first wrong line."""
