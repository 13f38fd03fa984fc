"""The package keeps to the small part of Python that it is written in: the rules that can be seen in its text."""

import ast
import builtins
import pathlib
import re
import unittest

PACKAGE = pathlib.Path(__file__).resolve().parent.parent / "tacticwright"
FILES = sorted(PACKAGE.glob("*.py"))

BUILTINS = set("""len range enumerate zip min max sum abs sorted reversed int str bool bytes list tuple dict set frozenset
isinstance ord repr any all divmod Exception ValueError TypeError KeyError IndexError LookupError ZeroDivisionError
ArithmeticError OverflowError RuntimeError NotImplementedError AttributeError StopIteration""".split())
METHODS = set("""append clear copy count endswith extend find get index insert isalnum isalpha isdigit islower isspace isupper
items join keys ljust lower lstrip partition pop remove replace reverse rfind rjust rpartition rsplit rstrip setdefault split
splitlines startswith strip update upper values zfill bit_length add discard sort""".split())
CHANGES = set("append clear extend insert pop remove reverse setdefault update sort".split())
BANNED_NAMES = set("""register mro elements open input version_info with_traceback add_note attrgetter breakpoint builtins compile
copyright credits delattr dir eval exec exit gc getattr globals hasattr help id importlib license locals methodcaller os quit
setattr super type vars sys""".split())
BANNED_WORDS = set("""type typing typing_extensions enum Enum IntEnum StrEnum Flag IntFlag Generic Protocol ABC ABCMeta namedtuple
NamedTuple TypedDict TYPE_CHECKING abstractmethod""".split())
DUNDERS = {"__init__", "__eq__", "__repr__", "__str__", "__len__"}
STATEMENTS = (ast.Assign, ast.AugAssign, ast.If, ast.While, ast.For, ast.Return, ast.Break, ast.Continue, ast.Pass, ast.Raise,
              ast.Try, ast.Expr, ast.FunctionDef, ast.Delete, ast.Assert)
EXPRESSIONS = (ast.Constant, ast.Name, ast.Tuple, ast.List, ast.Dict, ast.Set, ast.BinOp, ast.UnaryOp, ast.BoolOp, ast.Compare,
               ast.IfExp, ast.Call, ast.Attribute, ast.Subscript, ast.Slice, ast.ListComp, ast.DictComp, ast.SetComp, ast.Lambda,
               ast.JoinedStr, ast.FormattedValue)
WALKED = ("zip", "enumerate", "reversed", "range")
WALKERS = ("list", "tuple", "dict", "sorted", "sum", "any", "all", "enumerate", "zip", "bytes", "min", "max")
KEYWORDS = {"sorted": {"key", "reverse"}, "min": {"key", "default"}, "max": {"key", "default"}, "sum": {"start"},
            "enumerate": {"start"}, "zip": {"strict"}}
CLASSES = {"int", "str", "bool", "bytes", "list", "tuple", "dict"}


def read(path):
    return ast.parse(path.read_text(encoding="utf-8"))


def linked(tree):
    """The tree, each node with the node around it as its value above."""
    for node in ast.walk(tree):
        for inner in ast.iter_child_nodes(node):
            inner.above = node
    return tree


def around(node):
    while hasattr(node, "above"):
        node = node.above
        yield node


def defs(tree):
    return [node for node in ast.walk(tree) if isinstance(node, ast.FunctionDef)]


def called(node):
    """The plain name that is called, None where it is no call of one."""
    return node.func.id if isinstance(node, ast.Call) and isinstance(node.func, ast.Name) else None


def is_view(node):
    return (isinstance(node, ast.Call) and isinstance(node.func, ast.Attribute) and node.func.attr in ("items", "keys", "values")
            and not node.args)


class TestLanguage(unittest.TestCase):

    def trees(self):
        for path in FILES:
            yield path, linked(read(path))

    def test_there_are_files(self):
        self.assertIn("__init__.py", [path.name for path in FILES])
        self.assertLess(len(FILES), 100)
        for path in PACKAGE.iterdir():
            self.assertTrue(path.suffix == ".py" or path.name == "__pycache__", path)
            self.assertRegex(path.name, "^([a-z][a-z0-9_]*|__init__)[.]py$|^__pycache__$")
            self.assertNotIn(path.stem, dir(builtins))
            self.assertNotIn(path.stem, BANNED_WORDS)

    def test_signs_and_sizes(self):
        for path in FILES:
            text = path.read_text(encoding="utf-8")
            self.assertTrue(text.endswith("\n"), path)
            lines = text.split("\n")
            self.assertLessEqual(len(lines), 401, path)
            for at, line in enumerate(lines, 1):
                self.assertLessEqual(len(line), 120, (path, at))
                self.assertTrue(all(" " <= sign <= "~" for sign in line), (path, at))
            for word in re.findall("[A-Za-z_]+", text):
                self.assertNotIn(word, BANNED_WORDS, path)
            for part in ("dataclass", "overload", "contextmanager"):
                self.assertNotIn(part, text)

    def test_functions_are_short_and_plain(self):
        for path, tree in self.trees():
            for node in defs(tree):
                self.assertLessEqual(node.end_lineno - node.lineno + 1, 40, (path, node.name))
                args = node.args
                self.assertFalse(node.decorator_list or args.vararg or args.kwarg or args.posonlyargs or node.returns)
                for default in args.defaults + args.kw_defaults:
                    ast.literal_eval(default)
                if node.name.startswith("__"):
                    self.assertIn(node.name, DUNDERS)
                    self.assertIsInstance(node.above, ast.ClassDef)
                if node.name == "__init__":
                    for row in ast.walk(node):
                        self.assertFalse(isinstance(row, ast.Return) and row.value is not None)

    def test_the_top_of_each_file(self):
        for path, tree in self.trees():
            names = []
            for at, row in enumerate(tree.body):
                if isinstance(row, ast.Expr):
                    self.assertTrue(at == 0 and isinstance(row.value, ast.Constant), (path, row.lineno))
                elif isinstance(row, ast.ImportFrom):
                    names.extend(alias.asname or alias.name for alias in row.names)
                elif isinstance(row, ast.Assign):
                    self.assertEqual(len(row.targets), 1)
                    names.append(row.targets[0].id)
                    self.check_value(path, row.value, [])
                else:
                    self.assertIsInstance(row, (ast.FunctionDef, ast.ClassDef))
                    names.append(row.name)
            self.assertEqual(len(names), len(set(names)), path)

    def check_value(self, path, node, within):
        """A plain value; in a list or dict stands no list and no dict."""
        self.assertIsInstance(node, (ast.Constant, ast.Tuple, ast.List, ast.Dict, ast.Name), (path, node.lineno))
        if isinstance(node, (ast.List, ast.Dict)):
            self.assertEqual(within, [], (path, node.lineno))
        for inner in ast.iter_child_nodes(node):
            if isinstance(inner, ast.expr):
                self.check_value(path, inner, within + [node])

    def test_imports(self):
        drawn = {}
        for path, tree in self.trees():
            drawn[path.stem] = set()
            for node in ast.walk(tree):
                self.assertNotIsInstance(node, ast.Import)
                if isinstance(node, ast.ImportFrom):
                    self.assertIsInstance(node.above, ast.Module)
                    self.assertEqual(node.level, 0)
                    top, stem = node.module.split(".")
                    self.assertEqual(top, "tacticwright")
                    drawn[path.stem].add(stem)
                    tops = [row.name if hasattr(row, "name") else row.targets[0].id
                            for row in read(PACKAGE / (stem + ".py")).body if hasattr(row, "name") or isinstance(row, ast.Assign)]
                    for alias in node.names:
                        self.assertIn(alias.name, tops, (path, node.lineno))
                        self.assertIsNone(alias.asname)
        self.assertEqual(drawn["__init__"], set())
        while drawn:
            free = [stem for stem in drawn if not drawn[stem]]
            self.assertTrue(free, drawn)
            drawn = {stem: drawn[stem] - set(free) for stem in drawn if stem not in free}

    def test_imports_are_used(self):
        for path, tree in self.trees():
            used = {node.id for node in ast.walk(tree) if isinstance(node, ast.Name)}
            for node in ast.walk(tree):
                if isinstance(node, ast.ImportFrom):
                    for alias in node.names:
                        self.assertIn(alias.name, used, (path, node.lineno))

    def test_classes(self):
        methods, values = set(), set()
        for path, tree in self.trees():
            for node in ast.walk(tree):
                if isinstance(node, ast.ClassDef):
                    self.assertIsInstance(node.above, ast.Module)
                    self.assertLessEqual(len(node.bases), 1)
                    self.assertFalse(node.decorator_list or node.keywords)
                    for at, row in enumerate(node.body):
                        self.assertTrue(isinstance(row, ast.FunctionDef) or at == 0 and isinstance(row, ast.Expr))
                    own = [row.name for row in node.body if isinstance(row, ast.FunctionDef)]
                    self.assertEqual(len(own), len(set(own)))
                    methods.update(own)
                if isinstance(node, ast.Attribute) and isinstance(node.ctx, ast.Store):
                    values.add(node.attr)
        self.assertEqual(methods & values, set())
        taken = {name for kind in (str, int, list, dict, set, bytes, tuple) for name in dir(kind)}
        self.assertEqual((methods - DUNDERS) & (taken - METHODS), set())
        self.assertEqual(values & taken, set())
        for path, tree in self.trees():
            for node in ast.walk(tree):
                if isinstance(node, ast.Attribute):
                    self.assertIn(node.attr, methods | values | METHODS, (path, node.lineno))
                    if isinstance(node.above, ast.Call) and node.above.func is node:
                        self.assertIn(node.attr, methods | METHODS, (path, node.lineno))
                    else:
                        self.assertIn(node.attr, values, (path, node.lineno))

    def test_statements_and_expressions(self):
        for path, tree in self.trees():
            for node in ast.walk(tree):
                where = (path, getattr(node, "lineno", None))
                if isinstance(node, ast.stmt) and not isinstance(node, (ast.ImportFrom, ast.ClassDef)):
                    self.assertIsInstance(node, STATEMENTS, where)
                if isinstance(node, ast.expr):
                    self.assertIsInstance(node, EXPRESSIONS, where)
                if isinstance(node, (ast.For, ast.While)):
                    self.assertEqual(node.orelse, [], where)
                if isinstance(node, ast.Expr):
                    self.assertIsInstance(node.value, (ast.Call, ast.Constant), where)
                if isinstance(node, (ast.Div, ast.MatMult, ast.Pow)):
                    self.fail(where)
                if isinstance(node, ast.Constant):
                    self.assertNotIsInstance(node.value, (float, complex), where)
                    self.assertFalse(isinstance(node.value, str) and "%" in node.value, where)
                if isinstance(node, ast.Compare) and any(isinstance(op, (ast.Is, ast.IsNot)) for op in node.ops):
                    self.assertTrue(all(isinstance(right, ast.Constant) and right.value in (None, True, False)
                                        for right in node.comparators), where)
                if isinstance(node, (ast.ListComp, ast.SetComp, ast.DictComp)):
                    self.assertTrue(any(isinstance(up, ast.FunctionDef) for up in around(node)), where)

    def test_errors(self):
        for path, tree in self.trees():
            for node in ast.walk(tree):
                if isinstance(node, ast.ExceptHandler):
                    for kind in node.type.elts if isinstance(node.type, ast.Tuple) else [node.type]:
                        self.assertIsInstance(kind, ast.Name, path)
                        self.assertRegex(kind.id, "^(No|Too|Stuck|KeyError)", path)
                if isinstance(node, ast.Raise) and node.exc is not None:
                    self.assertRegex(called(node.exc) or "", "^(No|Too|Stuck)", (path, node.lineno))

    def test_names(self):
        for path, tree in self.trees():
            tops = {row.name for row in tree.body if isinstance(row, ast.ClassDef)}
            for row in tree.body:
                if isinstance(row, ast.ImportFrom):
                    tops.update(alias.name for alias in row.names)
            known = tops | {row.name for row in tree.body if hasattr(row, "name")}
            known |= {row.targets[0].id for row in tree.body if isinstance(row, ast.Assign)}
            for node in ast.walk(tree):
                where = (path, getattr(node, "lineno", None))
                given = None
                if isinstance(node, ast.Name):
                    self.assertRegex(node.id, "^[A-Za-z][A-Za-z0-9_]*$", where)
                    self.assertNotIn(node.id, BANNED_NAMES, where)
                    if isinstance(node.ctx, ast.Store) and any(isinstance(up, ast.FunctionDef) for up in around(node)):
                        given = node.id
                if isinstance(node, ast.arg):
                    given = node.arg
                if isinstance(node, ast.FunctionDef) and isinstance(node.above, ast.FunctionDef):
                    given = node.name
                if given is not None:
                    self.assertNotIn(given, tops, where)
                    self.assertNotIn(given, dir(builtins), where)
                    self.assertNotIn(given, BANNED_NAMES, where)
                    self.assertFalse(given.startswith("_"), where)
            self.check_reads(path, tree, known)

    def check_reads(self, path, tree, known):
        """Each name that is read is a local, one of the file's top, or one of Python's own that may stand."""
        for node in ast.walk(tree):
            if isinstance(node, ast.Name) and isinstance(node.ctx, ast.Load) and node.id not in known | BUILTINS:
                near = [up for up in around(node) if isinstance(up, (ast.FunctionDef, ast.Lambda))]
                own = {inner.id for up in near for inner in ast.walk(up)
                       if isinstance(inner, ast.Name) and isinstance(inner.ctx, ast.Store)}
                own |= {inner.arg for up in near for inner in ast.walk(up) if isinstance(inner, ast.arg)}
                own |= {inner.name for up in near for inner in ast.walk(up) if isinstance(inner, ast.FunctionDef)}
                self.assertIn(node.id, own, (path, node.lineno))

    def test_calls_of_pythons_own(self):
        own = {node.name for path, tree in self.trees() for node in tree.body if isinstance(node, ast.ClassDef)}
        for path, tree in self.trees():
            for node in ast.walk(tree):
                name = called(node)
                where = (path, getattr(node, "lineno", None))
                if name in BUILTINS:
                    for keyword in node.keywords:
                        self.assertIn(keyword.arg, KEYWORDS.get(name, ()), where)
                if name == "isinstance":
                    kinds = node.args[1].elts if isinstance(node.args[1], ast.Tuple) else [node.args[1]]
                    self.assertLessEqual({kind.id for kind in kinds}, CLASSES | own, where)
                if isinstance(node, ast.Call) and isinstance(node.func, ast.Attribute):
                    self.assertEqual(node.keywords, [], where)
                if isinstance(node, ast.Name) and node.id in BUILTINS - CLASSES and not node.id.endswith("Error"):
                    self.assertTrue(isinstance(node.above, ast.Call) and node.above.func is node, where)

    def test_walked_at_once(self):
        for path, tree in self.trees():
            for node in ast.walk(tree):
                if called(node) in WALKED or is_view(node):
                    above = node.above
                    where = (path, node.lineno)
                    walked = isinstance(above, (ast.For, ast.comprehension)) and above.iter is node
                    handed = called(above) in WALKERS and above.args[0] is node
                    turned = called(above) == "reversed" and called(node) == "range"
                    asked = isinstance(above, ast.Compare) and called(node) == "range"
                    self.assertTrue(walked or handed or turned or asked, where)
                if isinstance(node, ast.For):
                    self.check_unchanged(path, node)

    def check_unchanged(self, path, loop):
        """What a loop walks is not changed in it."""
        names = {node.id for node in ast.walk(loop.iter) if isinstance(node, ast.Name)}
        for row in loop.body:
            for node in ast.walk(row):
                if isinstance(node, ast.Attribute) and node.attr in CHANGES and isinstance(node.value, ast.Name):
                    self.assertNotIn(node.value.id, names, (path, node.lineno))
                if isinstance(node, ast.Subscript) and not isinstance(node.ctx, ast.Load) and isinstance(node.value, ast.Name):
                    self.assertNotIn(node.value.id, names, (path, node.lineno))

    def test_sets(self):
        for path, tree in self.trees():
            for node in ast.walk(tree):
                if called(node) != "set" and not isinstance(node, (ast.Set, ast.SetComp)):
                    continue
                where = (path, node.lineno)
                if not isinstance(node.above, ast.Assign):
                    self.assertTrue(isinstance(node.above, ast.Compare) or called(node.above) in ("sorted", "len"), where)
                    continue
                name = node.above.targets[0].id
                home = [up for up in around(node) if isinstance(up, ast.FunctionDef)][0]
                for use in ast.walk(home):
                    if isinstance(use, ast.Name) and use.id == name and isinstance(use.ctx, ast.Load):
                        above = use.above
                        told = isinstance(above, ast.Attribute) and above.attr in ("add", "discard")
                        told = told or isinstance(above, (ast.Compare, ast.If, ast.While)) or called(above) in ("sorted", "len")
                        self.assertTrue(told, where)

    def test_functions_within_assign_nothing_from_around(self):
        for path, tree in self.trees():
            for node in ast.walk(tree):
                self.assertNotIsInstance(node, (ast.Global, ast.Nonlocal))

    def test_written_lists_and_dicts_of_the_top_are_only_read(self):
        for path, tree in self.trees():
            tops = {row.targets[0].id for row in tree.body
                    if isinstance(row, ast.Assign) and isinstance(row.value, (ast.List, ast.Dict))}
            for node in ast.walk(tree):
                if isinstance(node, ast.Name) and node.id in tops and isinstance(node.ctx, ast.Load):
                    above = node.above
                    asked = isinstance(above, ast.Subscript) and isinstance(above.ctx, ast.Load)
                    asked = asked or isinstance(above, (ast.Compare, ast.For, ast.comprehension))
                    asked = asked or isinstance(above, ast.Attribute) and above.attr in ("get", "items", "keys", "values")
                    asked = asked or called(above) in ("len", "list", "dict", "sorted")
                    self.assertTrue(asked, (path, node.lineno))


if __name__ == "__main__":
    unittest.main()
