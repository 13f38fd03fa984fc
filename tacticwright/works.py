"""Works: a statement, the goals still open, the reason made on the way, and deeds that are taken back one by one."""

from tacticwright.errors import NoReason
from tacticwright.errors import NoTactic
from tacticwright.looker import looked
from tacticwright.needs import need
from tacticwright.reasons import holes_filled
from tacticwright.reasons import is_great_reason
from tacticwright.scopes import look
from tacticwright.tactics import met
from tacticwright.terms import alike
from tacticwright.terms import is_count


def holes_from(start, many):
    """The list of so many holes, numbered from start on."""
    return [("hole", start + k) for k in range(many)]


class Work:
    """The work at a right whole statement without free; else it is refused with NoTerm."""

    def __init__(self, lore, A):
        look(lore, {}, [], A)
        self.lore = lore
        # The goals and the reason from the beginning on, those at hand last: a deed puts behind, back takes off.
        self.stands = [([((), A)], ("hole", 0))]

    def goals(self):
        """The list of the goals."""
        return list(self.stands[-1][0])

    def reason(self):
        """The reason in which holes stand for the goals."""
        return self.stands[-1][1]

    def do(self, tactic):
        """The goals behind a tactic, of anything, at the first goal."""
        aims, p = self.stands[-1]
        need(len(aims) > 0)
        come, q = met(self.lore, aims[0], tactic)
        made = holes_filled(p, [q] + holes_from(len(come), len(aims) - 1))
        need(not is_great_reason(made))
        self.stands.append((come + aims[1:], made))
        return self.goals()

    def back(self):
        """The goals ahead of the last deed, which is taken back."""
        if len(self.stands) == 1:
            raise NoTactic()
        self.stands.pop()
        return self.goals()

    def fill(self, n, p):
        """The goals behind a reason, of anything, put for the n-th goal."""
        aims, q = self.stands[-1]
        if not is_count(n) or n >= len(aims):
            raise NoReason()
        context, G = aims[n]
        if not alike(looked(self.lore, context, p), G):
            raise NoReason(())
        made = holes_filled(q, holes_from(0, n) + [p] + holes_from(n, len(aims) - n - 1))
        if is_great_reason(made):
            raise NoReason()
        self.stands.append((aims[:n] + aims[n + 1:], made))
        return self.goals()
