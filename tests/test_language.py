"""The form of the code: the rules of the language that can be seen file by file."""

import ast
import builtins
import pathlib
import re
import unittest

FOLDER = pathlib.Path(__file__).resolve().parent.parent / "rowsbeneath"
PATHS = sorted(FOLDER.glob("*.py"))
TREES = {path.name: ast.parse(path.read_text(encoding="utf-8")) for path in PATHS}

OWN_NAMES = set(
    "len range enumerate zip min max sum abs sorted reversed int str bool bytes list tuple dict set frozenset isinstance"
    " ord repr any all divmod Exception ValueError TypeError KeyError IndexError LookupError ZeroDivisionError"
    " ArithmeticError OverflowError RuntimeError NotImplementedError AttributeError StopIteration".split(" "))
METHODS = set(
    "append clear copy count endswith extend find get index insert isalnum isalpha isdigit islower isspace isupper items"
    " join keys ljust lower lstrip partition pop remove replace reverse rfind rjust rpartition rsplit rstrip setdefault"
    " split splitlines startswith strip update upper values zfill bit_length add discard sort".split(" "))
WORDS = ("type typing typing_extensions enum Enum IntEnum StrEnum Flag IntFlag Generic Protocol ABC ABCMeta namedtuple"
         " NamedTuple TypedDict TYPE_CHECKING abstractmethod").split(" ")
NAMES_OUT = set("register mro elements open input version_info with_traceback add_note attrgetter breakpoint builtins compile"
                " copyright credits delattr dir eval exec exit gc getattr globals hasattr help id importlib license locals"
                " methodcaller os quit setattr super type vars sys".split(" "))
STATEMENTS = (ast.Assign, ast.AugAssign, ast.If, ast.While, ast.For, ast.Return, ast.Break, ast.Continue, ast.Pass, ast.Raise,
              ast.Try, ast.Expr, ast.FunctionDef, ast.ClassDef, ast.ImportFrom, ast.Delete, ast.Assert)
DUNDERS = {"__init__"}


def nodes(sort):
    """All nodes of a sort, each with its file's name."""
    return [(name, node) for name, tree in TREES.items() for node in ast.walk(tree) if isinstance(node, sort)]


def given_values():
    """The names of all values that are given to objects."""
    return {node.attr for _, node in nodes(ast.Attribute) if isinstance(node.ctx, ast.Store)}


def own_methods():
    """The names of all methods of the package's classes."""
    return {row.name for _, node in nodes(ast.ClassDef) for row in node.body if isinstance(row, ast.FunctionDef)}


class Language(unittest.TestCase):
    def test_files(self):
        for path in FOLDER.iterdir():
            if path.name != "__pycache__":
                self.assertRegex(path.name, r"^[a-z0-9_]+\.py$")
        self.assertIn("__init__.py", TREES)

    def test_sizes_and_signs(self):
        for path in PATHS:
            text = path.read_text(encoding="utf-8")
            self.assertRegex(text, r"\A[\n -~]*\Z", path.name)
            self.assertLessEqual(len(text.split("\n")), 400, path.name)
            self.assertLessEqual(max(len(line) for line in text.split("\n")), 120, path.name)
        for name, node in nodes(ast.FunctionDef):
            self.assertLessEqual(node.end_lineno - node.lineno + 1, 40, (name, node.name))

    def test_words_that_stand_nowhere(self):
        for path in PATHS:
            text = path.read_text(encoding="utf-8")
            for word in WORDS:
                self.assertIsNone(re.search(rf"\b{word}\b", text), (path.name, word))
            for word in ("dataclass", "overload", "contextmanager"):
                self.assertNotIn(word, text, path.name)

    def test_imports(self):
        drawn = {}
        self.assertEqual(nodes(ast.Import), [])
        for name, node in nodes(ast.ImportFrom):
            self.assertEqual(node.level, 0)
            package, module = node.module.split(".")
            self.assertEqual(package, "rowsbeneath")
            self.assertIn(node, TREES[name].body)
            bound = {row.name for row in TREES[module + ".py"].body if isinstance(row, (ast.FunctionDef, ast.ClassDef))}
            bound |= {row.targets[0].id for row in TREES[module + ".py"].body if isinstance(row, ast.Assign)}
            self.assertLessEqual({alias.name for alias in node.names}, bound)
            drawn.setdefault(name, set()).add(module + ".py")
        for name in TREES:
            self.assertNotIn(name, self.reached(drawn, name))

    def reached(self, drawn, name):
        """All files that a file draws from, in however many steps."""
        found, waiting = set(), [name]
        while waiting:
            for other in drawn.get(waiting.pop(), set()) - found:
                found.add(other)
                waiting.append(other)
        return found

    def test_statements_and_expressions(self):
        for name, node in nodes(ast.stmt):
            self.assertIsInstance(node, STATEMENTS, (name, node.lineno))
            self.assertFalse(isinstance(node, (ast.For, ast.While)) and node.orelse, (name, node.lineno))
        for name, node in nodes((ast.GeneratorExp, ast.NamedExpr, ast.Await, ast.Yield, ast.YieldFrom, ast.Set)):
            self.fail((name, node.lineno))
        for name, node in nodes(ast.Constant):
            self.assertIn(node.value.__class__, (int, str, bool, None.__class__), (name, node.lineno))
            self.assertFalse(isinstance(node.value, str) and chr(37) in node.value, (name, node.lineno))
        for name, node in nodes((ast.BinOp, ast.AugAssign)):
            self.assertNotIsInstance(node.op, (ast.Div, ast.MatMult, ast.Pow), (name, node.lineno))
        for name, node in nodes(ast.Compare):
            for op, other in zip(node.ops, node.comparators):
                if isinstance(op, (ast.Is, ast.IsNot)):
                    self.assertTrue(isinstance(other, ast.Constant) and other.value in (None, True, False), (name, node.lineno))

    def test_functions_and_classes(self):
        for name, node in nodes(ast.FunctionDef):
            self.assertEqual(node.decorator_list, [], (name, node.name))
            self.assertIsNone(node.args.vararg or node.args.kwarg, (name, node.name))
            self.assertEqual(node.args.posonlyargs, [], (name, node.name))
        for name, node in nodes(ast.ClassDef):
            self.assertEqual(node.decorator_list + node.keywords, [], (name, node.name))
            self.assertLessEqual(len(node.bases), 1, (name, node.name))
            self.assertIn(node, TREES[name].body, (name, node.name))

    def test_names(self):
        bound = {node.id for _, node in nodes(ast.Name) if isinstance(node.ctx, ast.Store)}
        bound |= {node.arg for _, node in nodes(ast.arg)} | {node.name for _, node in nodes(ast.FunctionDef)}
        bound |= given_values()
        for name in bound - DUNDERS:
            self.assertRegex(name, r"^[A-Za-z][A-Za-z0-9_]*$")
            self.assertNotIn(name, NAMES_OUT)
        local = {node.id for _, node in nodes(ast.Name) if isinstance(node.ctx, ast.Store)}
        for name in local | {node.arg for _, node in nodes(ast.arg)}:
            self.assertFalse(hasattr(builtins, name), name)
        for name, node in nodes(ast.Name):
            if isinstance(node.ctx, ast.Load) and hasattr(builtins, node.id):
                self.assertIn(node.id, OWN_NAMES, (name, node.lineno))

    def test_names_of_a_files_top(self):
        for name, tree in TREES.items():
            tops = [row.name for row in tree.body if isinstance(row, (ast.FunctionDef, ast.ClassDef))]
            tops += [row.targets[0].id for row in tree.body if isinstance(row, ast.Assign)]
            drawn = [alias.name for row in tree.body if isinstance(row, ast.ImportFrom) for alias in row.names]
            self.assertEqual(len(tops + drawn), len(set(tops + drawn)), name)
            barred = set(drawn) | {row.name for row in tree.body if isinstance(row, ast.ClassDef)}
            for row in [row for row in ast.walk(tree) if isinstance(row, ast.FunctionDef)]:
                local = {node.arg for node in ast.walk(row) if isinstance(node, ast.arg)}
                local |= {node.id for node in ast.walk(row) if isinstance(node, ast.Name) and isinstance(node.ctx, ast.Store)}
                self.assertEqual(local & barred, set(), (name, row.name))

    def test_methods_and_values(self):
        self.assertEqual(given_values() & own_methods(), set())
        known = METHODS | given_values() | own_methods()
        for name, node in nodes(ast.Attribute):
            self.assertIn(node.attr, known, (name, node.lineno))

    def test_methods_are_handed_what_they_take(self):
        takes = {}
        for _, node in nodes(ast.ClassDef):
            for row in [row for row in node.body if isinstance(row, ast.FunctionDef) and row.name != "__init__"]:
                many, free = len(row.args.args) - 1, len(row.args.defaults)
                takes.setdefault(row.name, set()).update(range(many - free, many + 1))
        for name, node in nodes(ast.Call):
            if isinstance(node.func, ast.Attribute) and node.func.attr in takes:
                self.assertIn(len(node.args) + len(node.keywords), takes[node.func.attr], (name, node.lineno))

    def test_free_names_of_methods_and_values(self):
        own = {name for sort in (str, int, list, dict, set, bytes, tuple) for name in dir(sort)}
        self.assertEqual((given_values() | own_methods()) & own - {"__init__"}, set())

    def test_classes_are_called_raised_taken_or_bases(self):
        classes = {node.name for _, node in nodes(ast.ClassDef)}
        for name, tree in TREES.items():
            allowed = set()
            for node in ast.walk(tree):
                if isinstance(node, ast.Call):
                    allowed.add(node.func)
                    if isinstance(node.func, ast.Name) and node.func.id == "isinstance":
                        allowed |= set(ast.walk(node.args[1]))
                elif isinstance(node, ast.ClassDef):
                    allowed |= set(node.bases)
                elif isinstance(node, ast.ExceptHandler):
                    allowed |= set(ast.walk(node.type))
                elif isinstance(node, ast.Attribute) and node.attr == "__init__":
                    allowed.add(node.value)
            for node in ast.walk(tree):
                if isinstance(node, ast.Name) and node.id in classes:
                    self.assertIn(node, allowed, (name, node.lineno))

    def test_walked_at_once(self):
        walkers = ("list", "tuple", "dict", "sorted", "sum", "any", "all", "enumerate", "zip", "min", "max")
        for name, tree in TREES.items():
            allowed = set()
            for node in ast.walk(tree):
                if isinstance(node, (ast.For, ast.comprehension)):
                    allowed.add(node.iter)
                elif isinstance(node, ast.Call) and isinstance(node.func, ast.Name) and node.func.id in walkers and node.args:
                    allowed.add(node.args[0])
            for node in ast.walk(tree):
                called = node.func if isinstance(node, ast.Call) else None
                if isinstance(called, ast.Name) and called.id in ("zip", "enumerate", "reversed", "range"):
                    self.assertIn(node, allowed, (name, node.lineno))
                if isinstance(called, ast.Attribute) and called.attr in ("items", "keys", "values"):
                    self.assertIn(node, allowed, (name, node.lineno))

    def test_sets_are_sorted_on_the_spot(self):
        for name, tree in TREES.items():
            inner = [node.args[0] for node in ast.walk(tree) if isinstance(node, ast.Call) and node.args
                     and isinstance(node.func, ast.Name) and node.func.id in ("sorted", "len")]
            for node in ast.walk(tree):
                if isinstance(node, ast.SetComp) or isinstance(node, ast.Call) and getattr(node.func, "id", "") in ("set", "frozenset"):
                    self.assertIn(node, inner, (name, node.lineno))

    def test_keywords_at_pythons_own(self):
        keywords = {"sorted": {"key", "reverse"}, "min": {"key", "default"}, "max": {"key", "default"}, "sum": {"start"},
                    "enumerate": {"start"}, "zip": {"strict"}}
        for name, node in nodes(ast.Call):
            if isinstance(node.func, ast.Name) and hasattr(builtins, node.func.id):
                told = {keyword.arg for keyword in node.keywords}
                self.assertLessEqual(told, keywords.get(node.func.id, set()), (name, node.lineno))

    def test_dicts_and_lists_of_a_files_top(self):
        for name, tree in TREES.items():
            tops = {row.targets[0].id for row in tree.body if isinstance(row, ast.Assign) and isinstance(row.value, (ast.Dict, ast.List))}
            allowed = set()
            for node in ast.walk(tree):
                if isinstance(node, ast.Subscript) and isinstance(node.ctx, ast.Load):
                    allowed.add(node.value)
                elif isinstance(node, ast.Compare):
                    allowed |= set(node.comparators)
                elif isinstance(node, ast.Call) and getattr(node.func, "id", "") in ("list", "dict", "len", "sorted"):
                    allowed |= set(node.args)
            for node in ast.walk(tree):
                if isinstance(node, ast.Name) and isinstance(node.ctx, ast.Load) and node.id in tops:
                    self.assertIn(node, allowed, (name, node.lineno))


if __name__ == "__main__":
    unittest.main()
