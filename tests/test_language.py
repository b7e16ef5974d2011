"""The rules of ../shared/LANGUAGE.md that can be read off the files one by one."""

import ast
import builtins
import pathlib
import re
import unittest

PACKAGE = pathlib.Path(__file__).resolve().parent.parent / "censers"
FILES = sorted(PACKAGE.glob("**/*.py"))

OWN_NAMES = set(
    "len range enumerate zip min max sum abs sorted reversed int str bool bytes list tuple dict set frozenset "
    "isinstance ord repr any all divmod Exception ValueError TypeError KeyError IndexError LookupError "
    "ZeroDivisionError ArithmeticError OverflowError RuntimeError NotImplementedError AttributeError "
    "StopIteration".split()
)
METHODS = set("__init__ __eq__ __repr__ __str__ __len__".split())
WORDS = (
    r"\b(type|typing|typing_extensions|enum|Enum|IntEnum|StrEnum|Flag|IntFlag|Generic|Protocol|ABC|ABCMeta|"
    r"namedtuple|NamedTuple|TypedDict|TYPE_CHECKING|abstractmethod)\b|dataclass|overload|contextmanager"
)
CALLED = set(
    "append clear copy count endswith extend find get index insert isalnum isalpha isdigit islower isspace isupper "
    "items join keys ljust lower lstrip partition pop remove replace reverse rfind rjust rpartition rsplit rstrip "
    "setdefault split splitlines startswith strip update upper values zfill bit_length".split()
)
BANNED = (
    ast.With, ast.Match, ast.Global, ast.Nonlocal, ast.Yield, ast.YieldFrom, ast.AsyncFunctionDef, ast.Await,
    ast.GeneratorExp, ast.NamedExpr, ast.Div, ast.MatMult, ast.Import,
)
TOP = (ast.ImportFrom, ast.FunctionDef, ast.ClassDef, ast.Assign)


def nodes(path, *kinds):
    return [node for node in ast.walk(ast.parse(path.read_text())) if isinstance(node, kinds)]


def names_given(path):
    given = [node.name for node in nodes(path, ast.FunctionDef, ast.ClassDef)]
    given += [node.arg for node in nodes(path, ast.arg)]
    return given + [node.id for node in nodes(path, ast.Name) if isinstance(node.ctx, ast.Store)]


def names_bound(body):
    bound = [node.name for node in body if isinstance(node, (ast.FunctionDef, ast.ClassDef))]
    return bound + [node.targets[0].id for node in body if isinstance(node, ast.Assign)]


def is_docstring(node):
    return isinstance(node, ast.Expr) and isinstance(node.value, ast.Constant) and isinstance(node.value.value, str)


class Language(unittest.TestCase):
    def test_nothing_else_lies_in_the_package(self):
        found = [path for path in PACKAGE.glob("**/*") if "__pycache__" not in path.parts and path.is_file()]
        self.assertEqual(sorted(found), FILES)
        self.assertIn(PACKAGE / "__init__.py", FILES)
        for path in FILES:
            self.assertRegex(path.name, r"^(__init__|__main__|[a-z][a-z0-9_]*)\.py$")

    def test_sizes_and_signs(self):
        for path in FILES:
            text = path.read_text()
            self.assertIsNone(re.search(r"[^\n -~]", text), path)
            self.assertIsNone(re.search(WORDS, text), path)
            self.assertLessEqual(len(text.splitlines()), 400)
            self.assertLessEqual(max(len(line) for line in text.splitlines()), 120)
            for node in nodes(path, ast.FunctionDef):
                self.assertLessEqual(node.end_lineno - node.lineno + 1, 40, node.name)

    def test_imports_are_the_package_s_own_by_full_names(self):
        for path in FILES:
            for node in nodes(path, ast.ImportFrom):
                self.assertEqual(node.level, 0)
                source = PACKAGE.parent / (node.module.replace(".", "/") + ".py")
                self.assertIn(source, FILES)
                there = names_bound(ast.parse(source.read_text()).body)
                for alias in node.names:
                    self.assertIn(alias.name, there)

    def test_the_top_of_a_file(self):
        for path in FILES:
            first, *others = ast.parse(path.read_text()).body
            self.assertTrue(is_docstring(first))
            for node in others:
                self.assertIsInstance(node, TOP)
            bound = names_bound(others)
            bound += [alias.name for node in others if isinstance(node, ast.ImportFrom) for alias in node.names]
            self.assertEqual(len(bound), len(set(bound)))

    def test_statements_and_values(self):
        for path in FILES:
            self.assertEqual(nodes(path, *BANNED), [])
            for node in nodes(path, ast.Constant):
                self.assertNotIsInstance(node.value, (float, complex))
                self.assertNotIn("%", str(node.value))
            for node in nodes(path, ast.For, ast.While):
                self.assertEqual(node.orelse, [])
            for node in nodes(path, ast.FunctionDef, ast.ClassDef):
                self.assertEqual(node.decorator_list, [])
            for node in nodes(path, ast.ClassDef):
                self.assertLessEqual(len(node.bases), 1)
                self.assertTrue(all(is_docstring(one) or isinstance(one, ast.FunctionDef) for one in node.body))

    def test_names(self):
        for path in FILES:
            for name in names_given(path):
                self.assertTrue(re.match(r"^[A-Za-z][A-Za-z0-9_]*$", name) or name in METHODS, name)
                self.assertNotIn(name, dir(builtins))
            drawn = {alias.name for node in nodes(path, ast.ImportFrom) for alias in node.names}
            self.assertEqual(drawn & set(names_given(path)), set())
            for node in nodes(path, ast.Name):
                if hasattr(builtins, node.id):
                    self.assertIn(node.id, OWN_NAMES)

    def test_methods_called_are_own_ones_or_plain(self):
        own = {one.name for path in FILES for node in nodes(path, ast.ClassDef) for one in node.body
               if isinstance(one, ast.FunctionDef)}
        for path in FILES:
            for node in nodes(path, ast.Call):
                if isinstance(node.func, ast.Attribute):
                    self.assertIn(node.func.attr, own | CALLED)

    def test_sets_stand_where_they_may(self):
        for path in FILES:
            self.assertEqual(nodes(path, ast.Set, ast.SetComp), [])
            inner = [inner for outer in nodes(path, ast.Call) for inner in outer.args
                     if getattr(outer.func, "id", "") in ("len", "sorted")]
            made = [node for node in nodes(path, ast.Call) if getattr(node.func, "id", "") in ("set", "frozenset")]
            within = [node for node in inner if getattr(getattr(node, "func", None), "id", "") == "set"]
            self.assertEqual(len(made), len(within))

    def test_no_file_draws_from_one_that_draws_from_it(self):
        drawn = {path.stem: {node.module.split(".")[-1] for node in nodes(path, ast.ImportFrom)} for path in FILES}
        left = dict(drawn)
        while left:
            free = [name for name, sources in left.items() if not sources & set(left)]
            self.assertNotEqual(free, [], left)
            left = {name: sources for name, sources in left.items() if name not in free}

    def test_no_name_is_a_method_and_a_value(self):
        methods, values = set(), set()
        for path in FILES:
            for node in nodes(path, ast.ClassDef):
                methods |= {one.name for one in node.body if isinstance(one, ast.FunctionDef)}
            values |= {node.attr for node in nodes(path, ast.Attribute) if isinstance(node.ctx, ast.Store)}
        self.assertEqual(methods & values, set())


if __name__ == "__main__":
    unittest.main()
