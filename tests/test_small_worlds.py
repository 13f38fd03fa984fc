"""No small world refutes what the looker takes (point 3)."""

import random
import unittest

import making
import slowlook
from looksamples import ADDED, ADDING, I, L, RAIN, RIGHT, X, Y, even, no
from samples import FALSE, NIL, ROWS, ZERO, atom, bound, call, form, free, same, suc
from tacticwright.books import Book
from tacticwright.errors import NoReason, NoTactic, TooGreat, TooLong
from tacticwright.looker import looked
from tacticwright.lore import Lore
from tacticwright.reasons import holes_filled, reasons_in, sorted_parts, with_reasons
from tacticwright.tactics import met
from tacticwright.worlds import good, refutes, truth

M = free("m")
TAKEN = [("taken", "rains", RAIN), ("taken", "there", ("some", "item", atom("near", bound(0), bound(0)))),
         ("taken", "step", ("all", "item", ("if", atom("near", bound(0), bound(0)), even(call("size", bound(0))))))]
BASE = [row for row in ROWS if row[0] not in ("taken", "reasoned")] + TAKEN
CONTEXT = (
    ("thing", "x", "nat"), ("thing", "y", "nat"), ("thing", "i", "item"), ("thing", "l", "list"),
    ("fact", "a", same(X, Y)), ("fact", "b", even(X)), ("fact", "c", ("if", even(X), even(Y))), ("fact", "d", ("and", even(X), RAIN)),
    ("fact", "e", ("or", even(X), even(Y))), ("fact", "w", ("some", "nat", same(bound(0), X))), ("fact", "k", same(suc(X), suc(Y))),
    ("fact", "v", ("some", "item", atom("near", bound(0), I))), ("fact", "u", ("all", "item", ("if", atom("near", bound(0), I), RAIN))),
    ("fact", "q", ("some", "item", same(call("size", bound(0)), X))),
)


def told_truth(lore, world, depth, env, A):
    try:
        return truth(lore, world, depth, env, A)
    except (TooLong, TooGreat):
        return None


def worlds_where(lore, rng, context, many):
    """Worlds and envs of a context's things in which all taken rows and all its facts are True."""
    found = []
    while len(found) < many:
        world = making.world(rng, lore.rows())
        world[2]["rain"] = ({}, True)
        env = {"x": making_value(rng, rng.randrange(3)), "i": rng.randrange(world[0]["item"]), "l": ("Nil", ())}
        env["y"] = env["x"]
        world[2]["even"][0][(env["x"],)] = True
        world[1]["size"][0][(rng.randrange(world[0]["item"]),)] = env["x"]
        facts = [entry[2] for entry in context if entry[0] == "fact"]
        if good(lore, world, 3) and all(told_truth(lore, world, 3, env, A) is True for A in facts):
            found.append((world, env))
    return found


def making_value(rng, many):
    made = ("Zero", ())
    for turn in range(many):
        made = ("Suc", (made,))
    return made


class TestReasonsByChance(unittest.TestCase):
    """Reasons put together and spoilt by chance: whatever the looker takes is False nowhere."""

    def pieces(self):
        reasons = [RIGHT[word][0] for word in RIGHT if word not in ("hole", "never", "unlike", "at", "inner", "forms")]
        reasons += [("take", ("fact", "v"), "o", "h", ("with", free("o"), atom("near", bound(0), I), ("fact", "h"))),
                    ("take", ("fact", "q"), "o", "h", ("swap", ("fact", "h"), even(bound(0)), ("hole", 9))),
                    ("at", ("fact", "u"), I), ("inner", ("fact", "k"), 0), ("each", "i", "item", ("fact", "rains")),
                    ("give", ("at", ("fact", "step"), I), ("fact", "h")), ("plain", X), ("plain", I), ("plain", suc(Y)),
                    ("each", "o", "item", ("plain", free("o"))), ("take", ("fact", "v"), "i", "h", ("fact", "h")),
                    ("take", ("fact", "q"), "x", "h", ("fact", "h")), ("fact", "h"), ("fact", "g"),
                    ("forms", X, (((), "h", ("fact", "b")), (("m",), "g", ("fact", "b")))),
                    ("forms", X, (((), "h", ("fact", "h")), (("m",), "g", ("fact", "g")))),
                    ("forms", L, (((), "h", ("plain", X)), (("i", "m"), "g", ("plain", X)))),
                    ("induct", "nat", even(bound(0)), (((), (), ("fact", "b")), (("x",), ("h",), ("fact", "h")))),
                    ("induct", "nat", same(bound(0), X), (((), (), ("hole", 0)), (("x",), ("h",), ("plain", suc(X)))))]
        for reason in list(reasons):
            reasons.extend(reasons_in(reason))
        statements = [entry[2] for entry in CONTEXT if entry[0] == "fact"] + [even(bound(0)), ADDED, RAIN, same(bound(0), X), even(Y)]
        return {"reason": reasons, "h": ["a", "b", "c", "d", "e", "g", "h", "u", "w", "v"], "x": ["x", "y", "i", "o"],
                "K": ["nat", "item"], "statement": statements, "body": statements, "number": [0, 1],
                "term": [X, Y, I, ZERO, suc(X), call("add", X, Y), free("o")],
                "induct rows": [ADDING[3]], "forms rows": [(((), "h", ("fact", "b")), (("y",), "g", ("fact", "b")))]}

    def grown(self, rng, pieces, depth):
        """A reason of a word by chance, its parts by chance."""
        reason = rng.choice(pieces["reason"])
        if depth == 0:
            return reason
        inner = reasons_in(reason)
        reason = with_reasons(reason, [self.grown(rng, pieces, depth - 1) if rng.random() < 0.4 else one for one in inner])
        parts = sorted_parts(reason)
        k = rng.randrange(len(parts))
        if parts[k][0] != "reason" and rng.random() < 0.5:
            reason = reason[:k + 1] + (rng.choice(pieces[parts[k][0]]),) + reason[k + 2:]
        return reason

    def test_many(self):
        rng = random.Random(29)
        lore = Lore(BASE)
        worlds = worlds_where(lore, rng, CONTEXT, 12)
        pieces = self.pieces()
        taken = {}
        for turn in range(12000):
            reason = self.grown(rng, pieces, rng.randrange(1, 4))
            try:
                told = looked(lore, CONTEXT, reason)
            except NoReason:
                continue
            if repr(told) not in taken:
                taken[repr(told)] = True
                for world, env in worlds:
                    self.assertIsNot(told_truth(lore, world, 3, env, told), False, (reason, told, world, env))
        self.assertGreater(len(taken), 200)


class TestBooksByChance(unittest.TestCase):
    """Statements met by a search with tactics, as rows of a book, looked at in worlds by chance."""

    def candidates(self, lore, goal, fresh):
        context, G = goal
        facts = [entry for entry in context if entry[0] == "fact"] + [("fact", row[1], row[2]) for row in TAKEN]
        things = [entry for entry in context if entry[0] == "thing"]
        for word, h, A in facts:
            if A == G:
                return [("by", h)]
            if A == FALSE:
                return [("apart", h, ())]
        found = [("plain",)]
        names = fresh[:2]
        if G[0] in ("if", "all"):
            return [("into", names[0])]
        for word, h, A in facts:
            if A[0] in ("and", "some") and not any(entry[1] > h and len(entry[1]) > 3 for entry in context):
                found.append(("apart", h, names))
            if A[0] == "or":
                found.append(("apart", h, names))
            if A[0] == "if":
                found.append(("use", h, ()))
            if A[0] == "all":
                found.extend(("use", h, (free(x),)) for word, x, K in things if K == A[1])
        if G[0] == "some":
            found.extend(("with", t) for t in [free(x) for word, x, K in things if K == G[1]] + [ZERO, call("spot"), NIL])
        found += [("both",), ("left",), ("right",)]
        return found

    def met_by(self, lore, goal, fuel, spent):
        """A reason of a goal, None where the search ends without one."""
        spent.append(1)
        if fuel == 0 or len(spent) > 120:
            return None
        fresh = tuple("s" + a + b for a in "abcdefgh" for b in "pqrs")
        there = [entry[1] for entry in goal[0]]
        fresh = tuple(name for name in fresh if name not in there)
        for tactic in self.candidates(lore, goal, fresh):
            try:
                come, p = met(lore, goal, tactic)
            except NoTactic:
                continue
            filled = []
            for one in come:
                q = self.met_by(lore, one, fuel - 1, spent)
                if q is None:
                    break
                filled.append(q)
            if len(filled) == len(come):
                return holes_filled(p, filled)
        return None

    def test_many(self):
        rng = random.Random(31)
        lore = Lore(BASE)
        rows = []
        for turn in range(1500):
            A = making.statement(rng, BASE, {}, [], rng.randrange(2, 4))
            p = self.met_by(lore, ((), A), 7, [])
            if p is not None and p[0] not in ("fact", "reckon"):
                rows.append(("reasoned", "r" + "abcdefghij"[len(rows) % 10] + "abcdefghij"[len(rows) // 10 % 10], A, p))
        self.assertGreater(len(rows), 60)
        truths = {True: 0, False: 0, None: 0}
        for at in range(0, len(rows) - 20, 20):
            book = Book(BASE + rows[at:at + 20])
            for turn in range(4):
                world = making.world(rng, BASE)
                world[2]["rain"] = ({}, True)
                if good(book, world, 2):
                    for row in rows[at:at + 20]:
                        told = told_truth(book, world, 2, {}, row[2])
                        self.assertIsNot(told, False, (row, world))
                        truths[told] += 1
                        if told is not None:
                            self.assertIs(refutes(book, world, 2, row[2]), False)
        self.assertGreater(truths[True], 30)


if __name__ == "__main__":
    unittest.main()
