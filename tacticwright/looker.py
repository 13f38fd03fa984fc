"""The looker: what a reason bears out in a context, by a book and, for its holes, by goals.

It goes by a list of the reasons that it is within, not by calls within calls, for a reason may be deep.
"""

from tacticwright.bearing import borne_out
from tacticwright.bearing import entries_for
from tacticwright.bearing import want_of
from tacticwright.contexts import put_behind
from tacticwright.contexts import things_of
from tacticwright.errors import NoReason
from tacticwright.errors import NoTerm
from tacticwright.errors import TooGreat
from tacticwright.errors import TooLong
from tacticwright.ownlooks import look_at_own
from tacticwright.reasons import reasons_in


class Look:
    """A reason p that is looked at in a context, and the statements told so far of the reasons within."""

    def __init__(self, lore, context, p, aims):
        self.lore = lore
        self.context = context
        self.things = things_of(context)
        self.p = p
        self.aims = aims
        self.within = None
        self.told = []


def gone_on(at):
    """The look at the next reason within, or, where there is none, the statement that the reason bears out."""
    if at.within is None:
        look_at_own(at)
        at.within = reasons_in(at.p)
    else:
        want_of(at, len(at.told) - 1)
    k = len(at.told)
    if k < len(at.within):
        return Look(at.lore, put_behind(at.context, entries_for(at, k)), at.within[k], at.aims)
    return borne_out(at)


def walked(around):
    """The statement of the first of a list of looks, the only one at the beginning; what is wrong is refused as it is.

    Where it is refused, the list holds the looks at the reasons around the fault, and at the one at fault last.
    """
    while True:
        made = gone_on(around[-1])
        if isinstance(made, Look):
            around.append(made)
        elif len(around) == 1:
            return made
        else:
            around.pop()
            around[-1].told.append(made)


def looked(lore, context, reason, goals=None):
    """The statement that a reason, of anything, bears out; NoReason where it is none."""
    around = [Look(lore, context, reason, goals)]
    try:
        return walked(around)
    except (NoReason, NoTerm, TooLong, TooGreat):
        raise NoReason(tuple([len(at.told) for at in around[:-1]])) from None


def still_borne(lore, p):
    """A closed reason into which right terms were put; refused where the looker would reckon beyond the bounds."""
    walked([Look(lore, (), p, None)])
    return p
