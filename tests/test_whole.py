"""What is promised over the whole program (point 3), by books, statements, tactics and worlds that are drawn."""

import random
import unittest

import making
import makingbooks
import slowlook
from meeting import holes
from paperwriting import paper_lines
from samples import FALSE, raised, same
from tacticwright.books import Book
from tacticwright.errors import NoReason, NoTactic, Stuck, TooGreat, TooLong
from tacticwright.goals import is_goal
from tacticwright.looker import looked
from tacticwright.lore import Lore
from tacticwright.papers import answered
from tacticwright.reading import read_reason, read_statement, read_tactic, read_term
from tacticwright.reasons import reason_nodes
from tacticwright.reckoning import reckoned, stepped, steps, turns
from tacticwright.rewriting import walk
from tacticwright.running import step, witness
from tacticwright.settling import is_plain, settled
from tacticwright.statements import closed
from tacticwright.tactics import met
from tacticwright.terms import alike, parts_of
from tacticwright.works import Work
from tacticwright.worlds import checked, good, truth
from tacticwright.writing import show_reason, show_statement, show_tactic, show_term

FRESH = [a + b for a in "uvw" for b in "abcdefghijklmnop"]


def fresh_names(context, many):
    there = [entry[1] for entry in context]
    return tuple([name for name in FRESH if name not in there][:many])


def facts_at(book, context):
    told = [(row[1], row[2]) for row in book.rows() if row[0] in ("taken", "reasoned")]
    return told + [(entry[1], entry[2]) for entry in context if entry[0] == "fact"]


def rows_for(book, context, K, facts):
    made = []
    for C, kinds in book.forms(K):
        many = list(kinds).count(K) if facts else 1
        names = fresh_names(context, len(kinds) + many)
        made.append((names[:len(kinds)], names[len(kinds):] if facts else names[-1]))
    return tuple(made)


def likely(rng, book, goal):
    """A tactic that is likely to go at a goal."""
    context, G = goal
    things = {entry[1]: entry[2] for entry in context if entry[0] == "thing"}
    names = fresh_names(context, 4)
    rows = book.rows()
    found = [("settle",), ("reckon",), ("plain",)]
    facts = facts_at(book, context)
    closing = [("by", h) for h, A in facts if A == G] + [("apart", h, ()) for h, A in facts if A == FALSE]
    if closing and rng.random() < 0.9:
        return rng.choice(closing)
    if G[0] in ("if", "all"):
        found += [("into", names[0])] * 12
    if G[0] == "and":
        found += [("both",)] * 12
    if G[0] == "or":
        found += [("left",), ("right",)] * 5
    if G[0] == "some":
        found += [("with", making.term(rng, rows, things, [], G[1], rng.randrange(3)))] * 8
    if G[0] == "same":
        found += [("plain",)] * 4
        found += [("cases", ("free", x), rows_for(book, context, K, False)) for x, K in things.items() if book.forms(K) is not None]
    for x, K in things.items():
        if book.forms(K) is not None:
            found += [("induct", x, rows_for(book, context, K, True)), ("back", x)]
    for h, A in facts:
        if A[0] in ("and", "or", "some"):
            found.append(("apart", h, names[:2]))
        if A[0] == "if":
            found.append(("use", h, ()))
        if A[0] == "same":
            found += [("turn", h, (), "on"), ("turn", h, (), "back"), ("unlike", h), ("inner", h, names[:1])]
        if A[0] == "all":
            found.append(("use", h, (making.term(rng, rows, things, [], A[1], 1),)))
        found.append(("tidy", h, names[0]))
    found.append(("have", names[0], making.statement(rng, rows, things, [], 1)))
    found.append(("sure", same(*[making.term(rng, rows, things, [], "n", 1) for turn in range(2)]), names[0], names[1]))
    return rng.choice(found)


def tactic_for(rng, book, goal):
    one = likely(rng, book, goal)
    choice = rng.randrange(8)
    if choice == 0:
        return ("then", one, ("try", likely(rng, book, goal)))
    if choice == 1:
        return ("first", (likely(rng, book, goal), one, ("try", ("done",))))
    if choice == 2:
        return ("again", ("first", (("both",), one)))
    return one


def books(seed, many):
    rng = random.Random(seed)
    for turn in range(many):
        rows = makingbooks.rows(rng)
        yield rng, rows, Book(rows)


class TestWorks(unittest.TestCase):
    """(a), (b), (c) and (g): drawn works, in drawn books, looked at in drawn worlds."""

    def look_at(self, book, work, A):
        goals, p = work.goals(), work.reason()
        self.assertEqual(looked(book, (), p, goals), A)
        self.assertEqual(sorted(holes(p)), list(range(len(goals))))
        self.assertTrue(all(is_goal(book, goal) for goal in goals))

    def worked(self, rng, book, A):
        """A work at A behind some deeds, and the tactics that were done."""
        work = Work(book, A)
        done = []
        for turn in range(14):
            goals, p = work.goals(), work.reason()
            if not goals:
                break
            tactic = tactic_for(rng, book, goals[0])
            if raised(NoTactic, work.do, tactic) is not None:
                self.assertEqual((work.goals(), work.reason()), (goals, p))
                continue
            self.look_at(book, work, A)
            if rng.random() < 0.1:
                self.assertEqual(work.back(), goals)
                self.assertEqual(work.reason(), p)
                continue
            done.append(tactic)
        return work, done

    def test_whatever_tactics_make(self):
        seen = {"reasoned": 0, "run": 0, "worlds": 0, "open": 0}
        for rng, rows, book in books(301, 150):
            for turn in range(4):
                A = making.statement(rng, rows, {}, [], rng.randrange(1, 4))
                work, done = self.worked(rng, book, A)
                for tactic in done:
                    self.assertEqual(read_tactic(show_tactic(tactic)), tactic)
                p = work.reason()
                self.assertEqual(read_reason(show_reason(p)), p)
                if work.goals():
                    seen["open"] += 1
                    continue
                seen["reasoned"] += 1
                self.assertEqual(slowlook.looked(rows, (), p), A)
                row = ("reasoned", "done", A, p)
                self.assertEqual(Book(rows + [row]).fact("done"), row)
                self.in_worlds(rng, rows, A, seen)
                self.runs(book, p, A, seen)
                self.on_paper(book, rows, A, done)
        self.assertGreater(min(seen.values()), 50, seen)

    def in_worlds(self, rng, rows, A, seen):
        lore = Lore(rows)
        for turn in range(3):
            world = making.world(rng, rows)
            try:
                if good(lore, world, 2):
                    self.assertIsNot(truth(lore, world, 2, {}, A), False, (rows, A, world))
                    seen["worlds"] += 1
            except (TooLong, TooGreat):
                pass

    def runs(self, book, p, A, seen):
        """(f): each step of a run bears out the same."""
        made = p
        for turn in range(60):
            try:
                come = step(book, made)
            except (Stuck, TooLong, TooGreat):
                return
            if come is None:
                break
            made = come
            self.assertEqual(looked(book, (), made), A)
        else:
            return
        seen["run"] += 1
        head = made[2] if made[0] == "reckon" else made
        self.assertIn(head[0], {"some": ["with"], "or": ["left", "right"], "same": ["plain"], "all": ["each", "induct"], "and": ["both"], "if": ["into"]}[A[0]])
        if A[0] == "some":
            rest = looked(book, (), head[3])
            t = witness(book, p)
            self.assertEqual(reckoned(book, slowlook.opened(A[2], t)), reckoned(book, rest))

    def on_paper(self, book, rows, A, done):
        lines = paper_lines(rows)
        lines += ["claim done: " + show_statement(A)] + ["  " + show_tactic(tactic) for tactic in done] + ["end"]
        work = Work(book, A)
        for tactic in done:
            work.do(tactic)
        self.assertEqual(answered("\n".join(lines)), "done reasoned " + str(reason_nodes(work.reason())))

    def test_a_reason_put_for_a_goal(self):
        filled = 0
        for rng, rows, book in books(302, 150):
            A = making.statement(rng, rows, {}, [], rng.randrange(1, 4))
            work, done = self.worked(rng, book, A)
            goals = work.goals()
            if not goals:
                continue
            n = rng.randrange(len(goals))
            context, G = goals[n]
            p = self.reason_of(rng, book, goals[n])
            if p is None:
                self.assertEqual(raised(NoReason, work.fill, n, ("hole", 0)).place, ())
                self.assertEqual(work.goals(), goals)
                continue
            self.assertEqual(looked(book, context, p), G)
            self.assertEqual(work.fill(n, p), goals[:n] + goals[n + 1:])
            self.look_at(book, work, A)
            filled += 1
            self.assertEqual(work.back(), goals)
            self.look_at(book, work, A)
        self.assertGreater(filled, 10)

    def reason_of(self, rng, book, goal):
        """A reason of a goal by one of a few tactics, None where they leave goals."""
        for turn in range(40):
            try:
                come, p = met(book, goal, likely(rng, book, goal))
            except NoTactic:
                continue
            if not come:
                return p
        return None


class TestReckoning(unittest.TestCase):
    """(d): one form whatever steps are gone, and the same truth; rewriting one place at a time."""

    def test_whatever_steps_are_gone(self):
        gone = 0
        for rng, rows, book in books(303, 80):
            for turn in range(5):
                t = making.term(rng, rows, {"x": "n"}, [], "n", rng.randrange(1, 4))
                try:
                    wanted = reckoned(book, t)
                except (TooLong, TooGreat):
                    continue
                self.assertEqual(turns(book, t)[-1], wanted)
                for way in range(2):
                    made, many = t, 0
                    while steps(book, made) and many < 300:
                        made, many = stepped(book, made, rng.choice(steps(book, made))), many + 1
                    if not steps(book, made):
                        self.assertEqual(made, wanted)
                        gone += many
        self.assertGreater(gone, 200)

    def test_the_same_truth(self):
        seen = {True: 0, False: 0, None: 0}
        for rng, rows, book in books(304, 80):
            for turn in range(4):
                A = making.statement(rng, rows, {}, [], rng.randrange(3))
                world = making.world(rng, rows)
                try:
                    B = reckoned(book, A)
                    told, again = truth(book, world, 2, {}, A), truth(book, world, 2, {}, B)
                    deeper = truth(book, world, 3, {}, A)
                except (TooLong, TooGreat):
                    continue
                self.assertIs(told, again, (A, B))
                seen[told] += 1
                if told is not None:
                    self.assertIs(deeper, told)
        self.assertGreater(min(seen.values()), 20, seen)

    def test_one_place_from_each_to_the_next(self):
        changed = 0
        for rng, rows, book in books(305, 60):
            for turn in range(4):
                A = making.statement(rng, rows, {"x": "n"}, [], rng.randrange(3))
                t, u = [making.term(rng, rows, {"x": "n"}, [], "n", rng.randrange(2)) for time in range(2)]
                told = walk(A, t, u)
                self.assertEqual(told[0], A)
                for one, other in zip(told, told[1:]):
                    self.assertEqual(self.unlike(one, other, t, u), [] if t == u else [(t, u)])
                    changed += 1
        self.assertGreater(changed, 50)

    def unlike(self, one, other, t, u):
        """The pairs of terms at the outermost places where t went out for u."""
        if alike(one, other):
            return []
        if one == t and other == u:
            return [(one, other)]
        return sum([self.unlike(*pair, t, u) for pair in zip(parts_of(one), parts_of(other))], [])


class TestSettling(unittest.TestCase):
    """(e): of a plain goal a reason, or a world where it is False."""

    def test_just_one_of_both(self):
        seen = {"reason": 0, "world": 0}
        for rng, rows, book in books(306, 200):
            kept = [row for row in rows if row[0] in ("open", "atom", "given") and all(kind == "o" for part in row[2:] for kind in (part if isinstance(part, tuple) else (part,)))]
            if ("open", "o") not in rows:
                continue
            things = tuple(("thing", x, "o") for x in ("x", "y"))
            for turn in range(6):
                G = making.statement(rng, kept, {"x": "o", "y": "o"}, [], rng.randrange(1, 4))
                if rng.random() < 0.5:
                    G = ("or", G, ("if", G, making.statement(rng, kept, {"x": "o"}, [], 0)))
                if not is_plain(book, (things, G)):
                    continue
                told = settled(book, (things, G))
                seen[told[0]] += 1
                if told[0] == "reason":
                    self.assertEqual(looked(book, things, told[1]), G)
                    continue
                checked(book, told[1])
                self.assertEqual(sorted(told[2]), ["x", "y"])
                self.assertIs(truth(book, told[1], 0, told[2], G), False)
        self.assertGreater(min(seen.values()), 50, seen)


class TestTexts(unittest.TestCase):
    """(g): what is written is read again as it was."""

    def test_terms_and_statements(self):
        for rng, rows, book in books(307, 60):
            for turn in range(10):
                A = making.statement(rng, rows, {"x": "n", "y": "n"}, [], rng.randrange(5))
                self.assertEqual(read_statement(show_statement(A)), A)
                B = closed(A, "x")
                self.assertEqual(read_statement(show_statement(("all", "n", B))), ("all", "n", B))
                t = making.term(rng, rows, {"x": "n"}, [], "n", 3)
                self.assertEqual(read_term(show_term(t)), t)


if __name__ == "__main__":
    unittest.main()
