"""Looks through the package's files for what the part of Python that it keeps to leaves out.

It sees only what can be seen file by file; it takes the place of no reading.
"""

import ast
import builtins
import pathlib
import re
import unittest

PACKAGE = pathlib.Path(__file__).resolve().parent.parent / "dueyard"

OWN_NAMES = """len range enumerate zip min max sum abs sorted reversed int str bool list tuple dict set frozenset
isinstance ord repr any all divmod Exception ValueError TypeError KeyError IndexError LookupError ZeroDivisionError
ArithmeticError OverflowError RuntimeError NotImplementedError AttributeError StopIteration""".split()

OWN_METHODS = """append clear copy count endswith extend find get index insert isalnum isalpha isdigit islower isspace
isupper items join keys ljust lower lstrip partition pop remove replace reverse rfind rjust rpartition rsplit rstrip
setdefault split splitlines startswith strip update upper values zfill bit_length""".split()

TWO_UNDERSCORES = ["__init__", "__eq__", "__repr__", "__str__", "__len__"]

WORDS_LEFT_OUT = re.compile(
    r"\b(type|typing|typing_extensions|enum|Enum|IntEnum|StrEnum|Flag|IntFlag|Generic|Protocol|ABC|ABCMeta"
    r"|namedtuple|NamedTuple|TypedDict|TYPE_CHECKING|abstractmethod)\b|dataclass|overload|contextmanager")

NODES_LEFT_OUT = (
    ast.With, ast.Match, ast.Delete, ast.Global, ast.Nonlocal, ast.Assert, ast.Yield, ast.YieldFrom, ast.Await,
    ast.AsyncFunctionDef, ast.AsyncFor, ast.AsyncWith, ast.SetComp, ast.DictComp, ast.GeneratorExp, ast.NamedExpr,
    ast.Starred, ast.Div, ast.Import, ast.AnnAssign, ast.MatMult,
)

NAMES_LEFT_OUT = """register mro elements open input version_info with_traceback add_note attrgetter breakpoint builtins
compile copyright credits delattr dir eval exec exit gc getattr globals hasattr help id importlib license locals
methodcaller os quit setattr super type vars sys""".split()

KEYWORDS = {"sorted": ["key", "reverse"], "min": ["key", "default"], "max": ["key", "default"], "sum": ["start"],
            "enumerate": ["start"], "zip": ["strict"]}

WALKED = ["zip", "enumerate", "reversed", "range", "items", "keys", "values"]
WALKERS = ["list", "tuple", "dict", "sorted", "sum", "any", "all", "enumerate", "zip", "min", "max", "join"]


def files():
    return sorted(PACKAGE.glob("*.py"))


def tree_of(file):
    return ast.parse(file.read_text(encoding="ascii"))


def nodes():
    for file in files():
        for node in ast.walk(tree_of(file)):
            yield file.name, node


def classes():
    return [node for name, node in nodes() if isinstance(node, ast.ClassDef)]


def own_methods():
    return {part.name for node in classes() for part in node.body if isinstance(part, ast.FunctionDef)}


def called(node):
    return node.func.id if isinstance(node.func, ast.Name) else getattr(node.func, "attr", None)


def drawn_from(tree):
    return [node.module.split(".")[1] for node in tree.body if isinstance(node, ast.ImportFrom)]


class Language(unittest.TestCase):
    def test_files_and_signs(self):
        for path in PACKAGE.iterdir():
            if path.name != "__pycache__":
                self.assertRegex(path.name, r"^[a-z0-9_]+\.py$")
        self.assertTrue((PACKAGE / "__init__.py").is_file())
        for file in files():
            text = file.read_bytes().decode("ascii")
            self.assertRegex(text, r"\A[ -~\n]*\Z", file.name)
            self.assertLessEqual(len(text.splitlines()), 400, file.name)
            self.assertIsNone(WORDS_LEFT_OUT.search(text), file.name)
            for line in text.splitlines():
                self.assertLessEqual(len(line), 120, (file.name, line))

    def test_the_top_of_a_file(self):
        allowed = (ast.ImportFrom, ast.FunctionDef, ast.ClassDef, ast.Assign)
        for file in files():
            defined = []
            for place, node in enumerate(tree_of(file).body):
                docstring = place == 0 and isinstance(node, ast.Expr)
                self.assertTrue(docstring or isinstance(node, allowed), (file.name, node.lineno))
                if isinstance(node, ast.FunctionDef):
                    defined.append(node.name)
                if isinstance(node, ast.Assign):
                    self.check_plain_value(node.value, defined, (file.name, node.lineno))

    def check_plain_value(self, value, defined, where):
        """Plain values, functions defined above among them; and no list or dict within another one."""
        for node in ast.walk(value):
            allowed = (ast.Constant, ast.List, ast.Tuple, ast.Dict, ast.Name, ast.Load, ast.UnaryOp, ast.USub)
            self.assertIsInstance(node, allowed, where)
            self.assertTrue(node is value or not isinstance(node, (ast.List, ast.Dict)), where)
            if isinstance(node, ast.Name):
                self.assertIn(node.id, defined, where)

    def test_imports(self):
        for name, node in nodes():
            if isinstance(node, ast.ImportFrom):
                self.assertEqual(node.level, 0, name)
                self.assertRegex(node.module, r"^dueyard\.[a-z0-9_]+$", name)
                defined = tree_of(PACKAGE / (node.module.split(".")[1] + ".py")).body
                names = [part.name for part in defined if isinstance(part, (ast.FunctionDef, ast.ClassDef))]
                names += [part.targets[0].id for part in defined if isinstance(part, ast.Assign)]
                for alias in node.names:
                    self.assertIn(alias.name, names, name)

    def test_no_two_files_draw_from_one_another(self):
        drawn = {file.stem: drawn_from(tree_of(file)) for file in files()}
        while drawn:
            free = [name for name in drawn if not any(other in drawn for other in drawn[name])]
            self.assertTrue(free, drawn)
            drawn = {name: drawn[name] for name in drawn if name not in free}

    def test_no_form_is_used_that_is_left_out(self):
        for name, node in nodes():
            where = (name, getattr(node, "lineno", None), node)
            self.assertNotIsInstance(node, NODES_LEFT_OUT, where)
            if isinstance(node, (ast.For, ast.While)):
                self.assertEqual(node.orelse, [], where)
            if isinstance(node, ast.Try):
                self.assertEqual(node.finalbody, [], where)
            if isinstance(node, ast.Assign):
                self.assertEqual(len(node.targets), 1, where)
            if isinstance(node, ast.Constant):
                self.assertNotIsInstance(node.value, (float, complex, bytes), where)
            if isinstance(node, ast.ListComp):
                self.assertEqual(len(node.generators), 1, where)
                self.assertLessEqual(len(node.generators[0].ifs), 1, where)

    def test_functions(self):
        for name, node in nodes():
            if isinstance(node, ast.FunctionDef):
                where = (name, node.name)
                self.assertLessEqual(node.end_lineno - node.lineno + 1, 40, where)
                self.assertEqual(node.decorator_list, [], where)
                self.assertEqual((node.args.vararg, node.args.kwarg, node.args.kwonlyargs), (None, None, []), where)

    def test_classes(self):
        for node in classes():
            self.assertEqual((node.decorator_list, node.keywords), ([], []), node.name)
            self.assertLessEqual(len(node.bases), 1, node.name)
            for part in node.body:
                self.assertIsInstance(part, (ast.FunctionDef, ast.Pass), node.name)

    def test_names(self):
        for name, node in nodes():
            where = (name, getattr(node, "lineno", None))
            if isinstance(node, (ast.FunctionDef, ast.ClassDef)) and node.name not in TWO_UNDERSCORES:
                self.assertRegex(node.name, r"^[A-Za-z]", where)
            if isinstance(node, ast.arg) or isinstance(node, ast.Name) and isinstance(node.ctx, ast.Store):
                bound = node.arg if isinstance(node, ast.arg) else node.id
                self.assertRegex(bound, r"^[A-Za-z]", where)
                self.assertFalse(hasattr(builtins, bound), (where, bound))
            elif isinstance(node, ast.Name) and hasattr(builtins, node.id):
                self.assertIn(node.id, OWN_NAMES, where)

    def test_methods_and_values(self):
        methods = own_methods()
        for name, node in nodes():
            where = (name, getattr(node, "lineno", None))
            if isinstance(node, ast.Attribute) and isinstance(node.ctx, ast.Store):
                self.assertNotIn(node.attr, methods, where)
            if isinstance(node, ast.Call) and isinstance(node.func, ast.Attribute):
                self.assertIn(node.func.attr, sorted(methods) + OWN_METHODS, where)

    def test_no_local_is_called_like_a_class_or_an_import_of_its_file(self):
        for file in files():
            tree = tree_of(file)
            taken = [alias.name for node in tree.body if isinstance(node, ast.ImportFrom) for alias in node.names]
            taken += [node.name for node in tree.body if isinstance(node, ast.ClassDef)]
            for node in ast.walk(tree):
                if isinstance(node, ast.arg):
                    self.assertNotIn(node.arg, taken, (file.name, node.lineno))
                if isinstance(node, ast.Name) and isinstance(node.ctx, ast.Store):
                    self.assertNotIn(node.id, taken, (file.name, node.lineno))

    def test_names_left_out(self):
        for name, node in nodes():
            for field in ["id", "attr", "arg", "name"]:
                self.assertNotIn(getattr(node, field, None), NAMES_LEFT_OUT, (name, getattr(node, "lineno", None)))

    def test_each_name_is_bound_once(self):
        for file in files():
            names = []
            for node in tree_of(file).body:
                if isinstance(node, ast.ImportFrom):
                    names += [alias.name for alias in node.names]
                elif isinstance(node, ast.Assign):
                    names.append(node.targets[0].id)
                elif not isinstance(node, ast.Expr):
                    names.append(node.name)
            self.assertEqual(len(set(names)), len(names), file.name)
        for node in classes():
            names = [part.name for part in node.body if isinstance(part, ast.FunctionDef)]
            self.assertEqual(len(set(names)), len(names), node.name)

    def test_lists_and_dicts_of_the_top_are_only_read(self):
        for file in files():
            tree = tree_of(file)
            kept = [node.targets[0].id for node in tree.body
                    if isinstance(node, ast.Assign) and isinstance(node.value, (ast.List, ast.Dict))]
            read = [node.value for node in ast.walk(tree)
                    if isinstance(node, ast.Subscript) and isinstance(node.ctx, ast.Load)]
            for node in ast.walk(tree):
                if isinstance(node, ast.Compare):
                    read += node.comparators
            for node in ast.walk(tree):
                if isinstance(node, ast.Name) and isinstance(node.ctx, ast.Load) and node.id in kept:
                    self.assertTrue(any(node is spot for spot in read), (file.name, node.lineno))

    def test_a_class_is_called_or_is_a_base_or_stands_by_isinstance(self):
        names = [node.name for node in classes()]
        for file in files():
            tree = tree_of(file)
            spots = []
            for node in ast.walk(tree):
                if isinstance(node, ast.Call):
                    spots += [node.func] + (node.args[1:] if called(node) == "isinstance" else [])
                elif isinstance(node, ast.ClassDef):
                    spots += node.bases
                elif isinstance(node, ast.Attribute) and node.attr == "__init__":
                    spots.append(node.value)
            for node in ast.walk(tree):
                if isinstance(node, ast.Name) and node.id in names:
                    self.assertTrue(any(node is spot for spot in spots), (file.name, node.lineno))

    def test_keywords(self):
        for name, node in nodes():
            if isinstance(node, ast.Call):
                for keyword in node.keywords:
                    self.assertIn(keyword.arg, KEYWORDS.get(called(node), []), (name, node.lineno))

    def test_texts_and_powers(self):
        for name, node in nodes():
            where = (name, getattr(node, "lineno", None))
            if isinstance(node, ast.FormattedValue):
                self.assertIsInstance(node.value, ast.Name, where)
                self.assertIsNone(node.format_spec, where)
            if isinstance(node, ast.Constant) and isinstance(node.value, str):
                self.assertNotIn("%", node.value, where)
            self.assertNotIsInstance(getattr(node, "op", None), ast.Pow, where)

    def test_is_stands_beside_none_and_truths_alone(self):
        for name, node in nodes():
            if isinstance(node, ast.Compare):
                for operator, right in zip(node.ops, node.comparators):
                    if isinstance(operator, (ast.Is, ast.IsNot)):
                        self.assertIsInstance(right, ast.Constant, (name, node.lineno))
                        self.assertTrue(right.value in (None, True, False), (name, node.lineno))

    def test_what_is_walked_is_walked_on_the_spot(self):
        for file in files():
            tree = tree_of(file)
            spots = [node.iter for node in ast.walk(tree) if isinstance(node, (ast.For, ast.comprehension))]
            for node in ast.walk(tree):
                if isinstance(node, ast.Call) and called(node) in WALKERS:
                    spots += node.args
            for node in ast.walk(tree):
                if isinstance(node, ast.Call) and called(node) in WALKED:
                    self.assertTrue(any(node is spot for spot in spots), (file.name, node.lineno))


if __name__ == "__main__":
    unittest.main()
