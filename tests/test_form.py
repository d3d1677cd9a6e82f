"""The form of the package's files, as far as it can be read off them: rules L1 to L28 of LANGUAGE.md."""

import ast
import builtins
import pathlib
import re
import unittest

PACKAGE = pathlib.Path(__file__).resolve().parent.parent / "pactway"

STATEMENTS = (
    ast.FunctionDef, ast.ClassDef, ast.ImportFrom, ast.Assign, ast.AugAssign, ast.AnnAssign, ast.If, ast.While,
    ast.For, ast.Return, ast.Break, ast.Continue, ast.Pass, ast.Raise, ast.Try, ast.Expr,
)
NOT_USED = (
    ast.SetComp, ast.DictComp, ast.GeneratorExp, ast.NamedExpr, ast.Starred, ast.Yield, ast.YieldFrom, ast.Await,
    ast.Div, ast.MatMult,
)
PYTHONS_OWN = (
    "len range enumerate zip min max sum abs sorted reversed int str bool list tuple dict set frozenset isinstance ord "
    "repr any all divmod Exception ValueError TypeError KeyError IndexError LookupError ZeroDivisionError "
    "ArithmeticError OverflowError RuntimeError NotImplementedError AttributeError StopIteration"
).split()
METHODS = (
    "append clear copy count endswith extend find get index insert isalnum isalpha isdigit islower isspace isupper "
    "items join keys ljust lower lstrip partition pop remove replace reverse rfind rjust rpartition rsplit rstrip "
    "setdefault split splitlines startswith strip update upper values zfill bit_length"
).split()
OWN_TOO = ["add", "discard", "title"]
UNDERSCORED = ["__init__", "__eq__", "__repr__", "__str__", "__len__", "__all__", "__version__", "__future__"]
UNUSED_NAMES = (
    "register mro elements open input version_info with_traceback add_note attrgetter breakpoint builtins compile "
    "copyright credits delattr dir eval exec exit gc getattr globals hasattr help id importlib license locals "
    "methodcaller os quit setattr super vars sys chr"
).split()
UNSAID = (
    "type typing typing_extensions enum Enum IntEnum StrEnum Flag IntFlag Generic Protocol ABC ABCMeta namedtuple "
    "NamedTuple TypedDict TYPE_CHECKING abstractmethod"
).split()


def sources():
    return [path for path in sorted(PACKAGE.rglob("*.py")) if path.name != "__main__.py"]


def trees():
    return [(path.name, ast.parse(path.read_text(encoding="utf-8"))) for path in sources()]


def nodes(kinds):
    return [(name, node) for name, tree in trees() for node in ast.walk(tree) if isinstance(node, kinds)]


def called(node, names):
    return isinstance(node, ast.Call) and isinstance(node.func, ast.Name) and node.func.id in names


def pythons_methods():
    return {name for kind in (str, int, list, tuple, dict, set, bytes) for name in dir(kind)}


class Files(unittest.TestCase):
    def test_there_are_some(self):
        self.assertIn("__init__.py", [path.name for path in sources()])

    def test_names_and_nothing_else(self):
        for path in PACKAGE.rglob("*"):
            if "__pycache__" not in path.parts:
                self.assertTrue(path.is_dir() or re.fullmatch(r"[a-z_][a-z0-9_]*\.py", path.name), path)

    def test_signs_and_sizes(self):
        for path in sources():
            text = path.read_text(encoding="utf-8")
            self.assertTrue(all(sign == "\n" or " " <= sign <= "~" for sign in text), path)
            self.assertLessEqual(len(text.splitlines()), 400, path)
            self.assertLessEqual(max(len(line) for line in text.splitlines() + [""]), 120, path)

    def test_unsaid_words(self):
        for path in sources():
            text = path.read_text(encoding="utf-8")
            self.assertFalse(set(re.findall(r"\w+", text)) & set(UNSAID), path)
            self.assertIsNone(re.search("dataclass|overload|contextmanager", text), path)

    def test_imports(self):
        for name, node in nodes((ast.Import, ast.ImportFrom)):
            self.assertIsInstance(node, ast.ImportFrom, name)
            self.assertEqual(node.level, 0, name)
            self.assertRegex(node.module, r"^(pactway\.\w+|__future__)$", name)
            for alias in node.names:
                self.assertNotEqual(alias.name, "*", name)

    def test_no_two_files_draw_from_one_another(self):
        drawn = {}
        for name, tree in trees():
            drawn[name] = [node.module.split(".")[1] + ".py" for node in ast.walk(tree)
                           if isinstance(node, ast.ImportFrom) and node.module != "__future__"]
        while drawn:
            free = [name for name in drawn if not set(drawn[name]) & set(drawn)]
            self.assertTrue(free, "a ring among " + " ".join(drawn))
            drawn = {name: drawn[name] for name in drawn if name not in free}


class Code(unittest.TestCase):
    def test_statements(self):
        for name, node in nodes(ast.stmt):
            self.assertIsInstance(node, STATEMENTS, (name, node.lineno))
            if isinstance(node, (ast.For, ast.While)):
                self.assertEqual(node.orelse, [], (name, node.lineno))
            if isinstance(node, ast.Try):
                self.assertEqual(node.finalbody, [], (name, node.lineno))
            if isinstance(node, ast.Assign):
                self.assertEqual(len(node.targets), 1, (name, node.lineno))

    def test_expressions(self):
        for name, node in nodes(NOT_USED):
            self.fail((name, node))
        for name, node in nodes(ast.ListComp):
            self.assertEqual(len(node.generators), 1, (name, node.lineno))
            self.assertLessEqual(len(node.generators[0].ifs), 1, (name, node.lineno))
        for name, node in nodes(ast.FormattedValue):
            self.assertIsInstance(node.value, ast.Name, (name, node.lineno))
            self.assertIsNone(node.format_spec, (name, node.lineno))

    def test_plain_values(self):
        for name, node in nodes(ast.Constant):
            self.assertNotIsInstance(node.value, (float, complex, bytes), (name, node.lineno))
            if isinstance(node.value, str):
                self.assertNotIn("%", node.value, (name, node.lineno))

    def test_is_stands_beside_none_and_truths(self):
        for name, node in nodes(ast.Compare):
            if any(isinstance(sign, (ast.Is, ast.IsNot)) for sign in node.ops):
                sides = [side.value for side in [node.left] + node.comparators if isinstance(side, ast.Constant)]
                self.assertTrue(any(side is None or side is True or side is False for side in sides),
                                (name, node.lineno))

    def test_sets_are_not_kept(self):
        for name, tree in trees():
            made = [node for node in ast.walk(tree) if called(node, ["set", "frozenset"])]
            on_the_spot = []
            for node in ast.walk(tree):
                if called(node, ["len", "sorted"]):
                    on_the_spot += node.args
                if isinstance(node, ast.Compare):
                    on_the_spot += [node.left] + node.comparators
            for node in made:
                self.assertIn(node, on_the_spot, (name, node.lineno))

    def test_what_is_walked_is_walked_at_once(self):
        for name, tree in trees():
            walked = []
            for node in ast.walk(tree):
                if isinstance(node, (ast.For, ast.comprehension)):
                    walked.append(node.iter)
                if called(node, ["list", "tuple", "dict", "sorted", "sum", "any", "all", "enumerate", "zip"]):
                    walked += node.args
                if called(node, ["min", "max"]) and len(node.args) == 1:
                    walked += node.args
            for node in ast.walk(tree):
                of_a_dict = (isinstance(node, ast.Call) and isinstance(node.func, ast.Attribute)
                             and node.func.attr in ["items", "keys", "values"])
                if of_a_dict or called(node, ["zip", "enumerate", "reversed", "range"]):
                    self.assertIn(node, walked, (name, node.lineno))

    def test_functions(self):
        for name, node in nodes(ast.FunctionDef):
            self.assertLessEqual(node.end_lineno - node.lineno + 1, 40, (name, node.name))
            self.assertEqual(node.decorator_list, [], (name, node.name))
            given = node.args
            self.assertEqual([given.vararg, given.kwarg, given.kwonlyargs, given.posonlyargs], [None, None, [], []],
                             (name, node.name))

    def test_classes(self):
        for name, node in nodes(ast.ClassDef):
            self.assertEqual((node.decorator_list, node.keywords), ([], []), (name, node.name))
            self.assertLessEqual(len(node.bases), 1, (name, node.name))
            for row in node.body:
                self.assertIsInstance(row, (ast.FunctionDef, ast.Pass, ast.Expr), (name, node.name))
            methods = [row.name for row in node.body if isinstance(row, ast.FunctionDef)]
            self.assertEqual(len(methods), len(set(methods)), (name, node.name))

    def test_no_name_is_a_method_and_a_value(self):
        methods = {row.name for name, node in nodes(ast.ClassDef) for row in node.body
                   if isinstance(row, ast.FunctionDef)}
        values = {node.attr for name, node in nodes(ast.Attribute) if isinstance(node.ctx, ast.Store)}
        self.assertEqual(methods & values, set())
        self.assertEqual((methods & pythons_methods()) - set(METHODS + OWN_TOO + UNDERSCORED), set())


class Names(unittest.TestCase):
    def bound(self):
        for name, node in nodes((ast.FunctionDef, ast.ClassDef)):
            yield name, node.name
        for name, node in nodes(ast.arg):
            yield name, node.arg
        for name, node in nodes(ast.Name):
            if isinstance(node.ctx, ast.Store):
                yield name, node.id

    def test_no_name_begins_with_an_underscore(self):
        for name, word in self.bound():
            self.assertTrue(word in UNDERSCORED or not word.startswith("_"), (name, word))

    def test_pythons_own_names(self):
        for name, node in nodes(ast.Name):
            self.assertNotIn(node.id, UNUSED_NAMES, (name, node.lineno))
            if isinstance(node.ctx, ast.Load) and node.id in dir(builtins):
                self.assertIn(node.id, PYTHONS_OWN, (name, node.lineno))

    def test_pythons_own_names_keep_their_meaning(self):
        methods = [row for name, node in nodes(ast.ClassDef) for row in node.body if isinstance(row, ast.FunctionDef)]
        own = {row.name for row in methods}
        for name, word in self.bound():
            self.assertTrue(word in own or word not in dir(builtins), (name, word))

    def test_no_parameter_or_local_is_called_like_a_class_or_an_import_of_its_file(self):
        for name, tree in trees():
            taken = {node.name for node in ast.walk(tree) if isinstance(node, ast.ClassDef)}
            taken |= {alias.name for node in ast.walk(tree) if isinstance(node, ast.ImportFrom)
                      for alias in node.names}
            given = {node.arg for node in ast.walk(tree) if isinstance(node, ast.arg)}
            given |= {node.id for node in ast.walk(tree)
                      if isinstance(node, ast.Name) and isinstance(node.ctx, ast.Store)}
            self.assertEqual(taken & given, set(), name)

    def test_each_import_is_from_the_file_that_defines_the_name_and_is_used(self):
        tops = {}
        for name, tree in trees():
            tops[name] = [node.name for node in tree.body if isinstance(node, (ast.FunctionDef, ast.ClassDef))]
            tops[name] += [node.targets[0].id for node in tree.body if isinstance(node, ast.Assign)]
            self.assertEqual(len(tops[name]), len(set(tops[name])), name)
        for name, tree in trees():
            used = {node.id for node in ast.walk(tree) if isinstance(node, ast.Name)}
            for node in ast.walk(tree):
                if isinstance(node, ast.ImportFrom) and node.module != "__future__":
                    for alias in node.names:
                        self.assertIn(alias.name, tops[node.module.split(".")[1] + ".py"], name)
                        self.assertIn(alias.name, used, name)

    def test_attributes(self):
        for name, node in nodes(ast.Attribute):
            if node.attr in pythons_methods():
                self.assertIn(node.attr, METHODS + OWN_TOO + UNDERSCORED, (name, node.lineno))
            self.assertNotIn(node.attr, ["mro", "register", "elements", "open", "input"], (name, node.lineno))


if __name__ == "__main__":
    unittest.main()
