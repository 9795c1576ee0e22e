"""The package keeps to the rules of its language, as far as they are plain to see in its files."""

import ast
import builtins
import pathlib
import re
import unittest

PACKAGE = pathlib.Path(__file__).resolve().parent.parent / "kinhearth"
FILES = sorted(path for path in PACKAGE.iterdir() if path.name != "__pycache__")
NO_NODES = (
    ast.With, ast.Match, ast.Global, ast.Nonlocal, ast.Yield, ast.YieldFrom, ast.AsyncFunctionDef, ast.Await,
    ast.NamedExpr, ast.GeneratorExp, ast.Div, ast.Import,
)
NO_WORDS = (
    "type typing typing_extensions enum Enum IntEnum StrEnum Flag IntFlag Generic Protocol ABC ABCMeta namedtuple"
    " NamedTuple TypedDict TYPE_CHECKING abstractmethod"
).split()
OWN_NAMES = (
    "len range enumerate zip min max sum abs sorted reversed int str bool bytes list tuple dict set frozenset"
    " isinstance ord repr any all divmod Exception ValueError TypeError KeyError IndexError LookupError"
    " ZeroDivisionError ArithmeticError OverflowError RuntimeError NotImplementedError AttributeError StopIteration"
).split()
PYTHONS_METHODS = (
    "append clear copy count endswith extend find get index insert isalnum isalpha isdigit islower isspace isupper"
    " items join keys ljust lower lstrip partition pop remove replace reverse rfind rjust rpartition rsplit rstrip"
    " setdefault split splitlines startswith strip update upper values zfill bit_length"
).split()
TWO_UNDERSCORES = ("__init__", "__eq__", "__repr__", "__str__", "__len__")


def nodes(path, *kinds):
    return [node for node in ast.walk(ast.parse(path.read_text())) if isinstance(node, kinds)]


def given_names(path):
    """Names that the file gives to defs, parameters, locals and values of objects."""
    names = [node.name for node in nodes(path, ast.FunctionDef, ast.ClassDef)]
    names += [node.arg for node in nodes(path, ast.arg)]
    names += [node.id for node in nodes(path, ast.Name) if not isinstance(node.ctx, ast.Load)]
    return names + [node.attr for node in nodes(path, ast.Attribute)]


class Language(unittest.TestCase):
    def test_files(self):
        self.assertIn("__init__.py", [path.name for path in FILES])
        for path in FILES:
            with self.subTest(path.name):
                self.assertRegex(path.name, r"^[a-z_][a-z0-9_]*\.py$")

    def test_sizes_and_signs(self):
        for path in FILES:
            with self.subTest(path.name):
                text = path.read_text()
                self.assertRegex(text, r"^[ -~\n]*$")
                self.assertLessEqual(len(text.splitlines()), 400)
                self.assertLessEqual(max(len(row) for row in text.splitlines()), 120)
                for node in nodes(path, ast.FunctionDef):
                    self.assertLessEqual(node.end_lineno - node.lineno + 1, 40, node.name)

    def test_words(self):
        for path in FILES:
            with self.subTest(path.name):
                words = set(re.findall(r"[A-Za-z0-9_]+", path.read_text()))
                self.assertEqual(words & set(NO_WORDS), set())

    def test_nodes(self):
        for path in FILES:
            with self.subTest(path.name):
                self.assertEqual(nodes(path, *NO_NODES), [])
                for node in nodes(path, ast.FunctionDef, ast.ClassDef):
                    self.assertEqual(node.decorator_list, [])
                for node in nodes(path, ast.Constant):
                    self.assertNotIsInstance(node.value, float)
                    self.assertNotIn("%", node.value if isinstance(node.value, str) else "")

    def test_is_stands_beside_none_alone(self):
        for path in FILES:
            for node in nodes(path, ast.Compare):
                for sign, right in zip(node.ops, node.comparators):
                    if isinstance(sign, (ast.Is, ast.IsNot)):
                        self.assertIn(ast.unparse(right), ("None", "True", "False"), path.name)

    def test_walks_are_not_kept(self):
        # What `zip`, `items` and their like tell is walked where it stands: in a loop or in one of these calls.
        takers = "list tuple dict sorted sum any all enumerate zip bytes min max".split()
        for path in FILES:
            fine = self.places(path, takers)
            for node in nodes(path, ast.Call):
                if self.is_walk(node):
                    self.assertIn((node.lineno, node.col_offset), fine, path.name)

    def is_walk(self, node):
        if isinstance(node.func, ast.Name):
            return node.func.id in ("zip", "enumerate", "reversed", "range")
        return isinstance(node.func, ast.Attribute) and node.func.attr in ("items", "keys", "values")

    def places(self, path, takers):
        things = [node.iter for node in nodes(path, ast.For, ast.comprehension)]
        for node in nodes(path, ast.Call):
            if isinstance(node.func, ast.Name) and node.func.id in takers:
                things += node.args[:1]
        for node in nodes(path, ast.Compare):
            if isinstance(node.ops[0], (ast.In, ast.NotIn)):
                things += [right for right in node.comparators if "range" in ast.dump(right)]
        return [(thing.lineno, thing.col_offset) for thing in things]

    def test_no_sets(self):
        for path in FILES:
            self.assertEqual(nodes(path, ast.Set, ast.SetComp), [], path.name)
            for node in nodes(path, ast.Name):
                self.assertNotIn(node.id, ("set", "frozenset"), path.name)

    def test_methods_of_pythons_own_values(self):
        own = set()
        for path in FILES:
            for kind in nodes(path, ast.ClassDef):
                own |= {node.name for node in kind.body if isinstance(node, ast.FunctionDef)}
        for path in FILES:
            for node in nodes(path, ast.Call):
                if isinstance(node.func, ast.Attribute):
                    self.assertIn(node.func.attr, own | set(PYTHONS_METHODS), path.name)

    def test_values_that_are_asked_are_given(self):
        given, called = set(), set()
        for path in FILES:
            given |= {node.attr for node in nodes(path, ast.Attribute) if isinstance(node.ctx, ast.Store)}
            for kind in nodes(path, ast.ClassDef):
                called |= {node.name for node in kind.body if isinstance(node, ast.FunctionDef)}
        for path in FILES:
            for node in nodes(path, ast.Attribute):
                self.assertIn(node.attr, given | called | set(PYTHONS_METHODS), path.name)

    def test_the_top_of_a_file(self):
        for path in FILES:
            body = ast.parse(path.read_text()).body
            self.assertTrue(ast.get_docstring(ast.parse(path.read_text())), path.name)
            for node in body[1:]:
                self.assertIsInstance(node, (ast.ImportFrom, ast.FunctionDef, ast.ClassDef, ast.Assign), path.name)
            names = [target.id for node in body if isinstance(node, ast.Assign) for target in node.targets]
            names += [alias.name for node in body if isinstance(node, ast.ImportFrom) for alias in node.names]
            names += [node.name for node in body if isinstance(node, (ast.FunctionDef, ast.ClassDef))]
            self.assertEqual(len(names), len(set(names)), path.name)

    def test_no_two_files_draw_from_one_another(self):
        drawn = {}
        for path in FILES:
            drawn[path.stem] = {node.module.split(".")[1] for node in nodes(path, ast.ImportFrom)}
        left = dict(drawn)
        while left:
            free = [name for name, needs in left.items() if not needs & set(left)]
            self.assertNotEqual(free, [], sorted(left))
            for name in free:
                del left[name]

    def test_names_are_drawn_from_the_file_that_defines_them(self):
        for path in FILES:
            for node in nodes(path, ast.ImportFrom):
                body = ast.parse((PACKAGE / (node.module.split(".")[1] + ".py")).read_text()).body
                names = [target.id for row in body if isinstance(row, ast.Assign) for target in row.targets]
                names += [row.name for row in body if isinstance(row, (ast.FunctionDef, ast.ClassDef))]
                for alias in node.names:
                    self.assertIn(alias.name, names, path.name)
                    self.assertIsNone(alias.asname)

    def test_imports_are_the_packages_own(self):
        for path in FILES:
            with self.subTest(path.name):
                for node in nodes(path, ast.ImportFrom):
                    self.assertEqual(node.level, 0)
                    self.assertTrue((PACKAGE / (node.module.removeprefix("kinhearth.") + ".py")).exists(), node.module)

    def test_names(self):
        for path in FILES:
            with self.subTest(path.name):
                drawn = [alias.name for node in nodes(path, ast.ImportFrom) for alias in node.names]
                for name in given_names(path):
                    self.assertTrue(name in TWO_UNDERSCORES or not name.startswith("_"), name)
                for node in nodes(path, ast.Name, ast.arg):
                    name = node.arg if isinstance(node, ast.arg) else node.id
                    given = isinstance(node, ast.arg) or not isinstance(node.ctx, ast.Load)
                    self.assertFalse(given and (name in drawn or hasattr(builtins, name)), name)
                    self.assertTrue(given or name in OWN_NAMES or not hasattr(builtins, name), name)

    def test_no_name_is_a_method_here_and_a_value_there(self):
        methods, values = set(), set()
        for path in FILES:
            for kind in nodes(path, ast.ClassDef):
                methods |= {node.name for node in kind.body if isinstance(node, ast.FunctionDef)}
            values |= {node.attr for node in nodes(path, ast.Attribute) if isinstance(node.ctx, ast.Store)}
        self.assertEqual(methods & values, set())

    def test_no_set_is_added_to(self):
        # As `Joins` has a method `add`, whatever is added to must be plain to see: that method takes nothing.
        for path in FILES:
            for node in nodes(path, ast.Call):
                if isinstance(node.func, ast.Attribute) and node.func.attr in ("add", "discard"):
                    self.assertEqual(node.args, [], path.name)

    def test_nothing_is_called_like_a_class_or_def_of_its_file(self):
        for path in FILES:
            with self.subTest(path.name):
                top = [node.name for node in ast.parse(path.read_text()).body if hasattr(node, "name")]
                self.assertEqual(len(top), len(set(top)))
                for node in nodes(path, ast.Name, ast.arg):
                    name = node.arg if isinstance(node, ast.arg) else node.id
                    if isinstance(node, ast.arg) or not isinstance(node.ctx, ast.Load):
                        self.assertNotIn(name, top)


if __name__ == "__main__":
    unittest.main()
