"""What all tests of tactics ask: the goals that come, a reason that the looker takes by them, or a failing."""

import unittest

import slowlook
from looksamples import BOOK_ROWS, CONTEXT
from samples import raised
from tacticwright.errors import NoTactic
from tacticwright.goals import is_goal
from tacticwright.looker import looked
from tacticwright.lore import Lore
from tacticwright.reasons import is_great_reason, reasons_of
from tacticwright.tactics import met

LORE = Lore(BOOK_ROWS)


def holes(p):
    """The numbers of the holes that stand in a reason, from the left."""
    return [part[1] for part in reasons_of(p) if part[0] == "hole"]


class MeetCase(unittest.TestCase):

    def asked(self, goal, tactic, lore=LORE):
        """What met tells, the reason being one of the goal's statement by just the goals told, each standing in it once."""
        told = met(lore, goal, tactic)
        self.assertIsInstance(told, tuple)
        come, p = told
        self.assertIsInstance(come, list)
        self.assertEqual(looked(lore, goal[0], p, come), goal[1], tactic)
        self.assertEqual(slowlook.looked(lore.rows(), goal[0], p, come), goal[1], tactic)
        self.assertEqual(sorted(holes(p)), list(range(len(come))), tactic)
        self.assertFalse(is_great_reason(p))
        for one in come:
            self.assertTrue(is_goal(lore, one), one)
        return come, p

    def meets(self, G, tactic, *come, context=CONTEXT, lore=LORE):
        """These goals come, in their order; where one is a statement alone, in the context at hand."""
        wanted = [one if isinstance(one[0], tuple) and (one[0] == () or isinstance(one[0][0], tuple)) else (context, one) for one in come]
        told, p = self.asked((context, G), tactic, lore)
        self.assertEqual(told, wanted)

    def fails(self, G, *tactics, context=CONTEXT, lore=LORE):
        for tactic in tactics:
            error = raised(NoTactic, met, lore, (context, G), tactic)
            self.assertIsNotNone(error, tactic)
            self.assertIsNone(error.place)
