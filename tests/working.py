"""What all tests of works ask: goals and a reason that go together, and a work that stands at a goal."""

import unittest

import slowlook
from looksamples import CONTEXT
from meeting import LORE, holes
from samples import raised
from tacticwright.errors import NoReason, NoTactic
from tacticwright.goals import is_goal
from tacticwright.looker import looked
from tacticwright.reasons import is_great_reason
from tacticwright.statements import closed
from tacticwright.works import Work


def stated(context, G):
    """The statement without free that leads to a goal by an into for each entry."""
    for word, name, told in reversed(context):
        G = ("all", told, closed(G, name)) if word == "thing" else ("if", told, G)
    return G


def work_at(G, context=CONTEXT, lore=LORE):
    """A work that stands at this goal."""
    work = Work(lore, stated(context, G))
    for entry in context:
        work.do(("into", entry[1]))
    return work


class WorkCase(unittest.TestCase):

    def is_sound(self, work, A, lore=LORE):
        """The looker takes the work's reason by the goals told, with no context, each hole standing in it once."""
        goals, p = work.goals(), work.reason()
        self.assertIsInstance(goals, list)
        self.assertEqual(looked(lore, (), p, goals), A)
        self.assertEqual(slowlook.looked(lore.rows(), (), p, goals), A)
        self.assertEqual(sorted(holes(p)), list(range(len(goals))))
        self.assertTrue(all(is_goal(lore, one) for one in goals))
        self.assertFalse(is_great_reason(p))

    def refuses(self, kind, work, deed, *args):
        """The error of a deed that is refused, goals and reason staying as they were."""
        goals, p = work.goals(), work.reason()
        error = raised(kind, deed, *args)
        self.assertIsNotNone(error, args)
        self.assertEqual((work.goals(), work.reason()), (goals, p))
        return error

    def fails(self, work, *tactics):
        for tactic in tactics:
            self.assertIsNone(self.refuses(NoTactic, work, work.do, tactic).place)

    def fills_none(self, work, n, p, place):
        self.assertEqual(self.refuses(NoReason, work, work.fill, n, p).place, place)
