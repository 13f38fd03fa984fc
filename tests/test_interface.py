"""The names and arguments of the interface, as they stand in the document."""

import importlib
import inspect
import unittest

INTERFACE = {
    "terms": ["is_name(thing)", "is_form_name(thing)", "is_term(thing)", "nodes(thing)", "free_in(thing)", "at_place(t, place)",
              "with_place(t, place, u)", "args_put(t, args)"],
    "statements": ["is_statement(thing)", "is_whole(thing)", "opened(A, t)", "closed(A, x)", "free_put(thing, x, t)"],
    "scopes": ["kind_of(lore, things, inner, t)", "look(lore, things, inner, A)"],
    "reckoning": ["steps(lore, t)", "stepped(lore, t, place)", "turns(lore, t)", "reckoned(lore, thing)"],
    "worlds": ["checked(lore, world)", "values(lore, world, K, depth)", "value(lore, world, env, t)", "truth(lore, world, depth, env, A)",
               "good(lore, world, depth)", "refutes(lore, world, depth, A)"],
    "looker": ["looked(lore, context, reason, goals=None)"],
    "goals": ["is_goal(lore, thing)"],
    "rewriting": ["walk(A, t, u)"],
    "tactics": ["met(lore, goal, tactic)"],
    "settling": ["is_plain(lore, goal)", "settled(lore, goal)"],
    "running": ["step(book, reason)", "ran(book, reason)", "witness(book, reason)"],
    "writing": ["show_term(t)", "show_statement(A)", "show_reason(p)", "show_tactic(a)"],
    "reading": ["read_term(text)", "read_statement(text)", "read_reason(text)", "read_tactic(text)"],
    "papers": ["answered(text)"],
}
LORE = ["rows(self)", "forms(self, K)", "has_kind(self, K)", "form(self, C)", "function(self, f)", "word(self, P)", "fact(self, h)"]

WORK = ["goals(self)", "reason(self)", "do(self, tactic)", "back(self)", "fill(self, n, p)"]


class TestInterface(unittest.TestCase):

    def test_functions(self):
        for stem, wanted in INTERFACE.items():
            module = importlib.import_module("tacticwright." + stem)
            for row in wanted:
                name = row.split("(")[0]
                self.assertEqual(name + str(inspect.signature(getattr(module, name))), row)

    def test_lore_and_book(self):
        lore = importlib.import_module("tacticwright.lore").Lore
        book = importlib.import_module("tacticwright.books").Book
        self.assertEqual(book.__bases__, (lore,))
        for kind in (lore, book):
            self.assertEqual(str(inspect.signature(kind)), "(rows)")
            for row in LORE:
                name = row.split("(")[0]
                self.assertEqual(name + str(inspect.signature(getattr(kind, name))), row)

    def test_work(self):
        work = importlib.import_module("tacticwright.works").Work
        self.assertEqual(str(inspect.signature(work)), "(lore, A)")
        for row in WORK:
            name = row.split("(")[0]
            self.assertEqual(name + str(inspect.signature(getattr(work, name))), row)

    def test_errors(self):
        errors = importlib.import_module("tacticwright.errors")
        for name in ("TacticError", "NoTerm", "NoBook", "NoWorld", "NoReason", "NoTactic", "TooLong", "TooGreat", "Stuck", "NoWords"):
            self.assertEqual(str(inspect.signature(getattr(errors, name))), "(place=None)")

    def test_the_package_itself_binds_nothing(self):
        package = importlib.import_module("tacticwright")
        importlib.import_module("tacticwright.worlds")
        names = [name for name in vars(package) if not name.startswith("__")]
        self.assertTrue(all(inspect.ismodule(getattr(package, name)) for name in names))


if __name__ == "__main__":
    unittest.main()
