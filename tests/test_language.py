"""The package's own files against those rules of LANGUAGE.md that can be read off a file's tree and text."""

import ast
import builtins
import pathlib
import re
import unittest

PACKAGE = pathlib.Path(__file__).resolve().parent.parent / "waitwheel"

STATEMENTS = (
    ast.Module, ast.FunctionDef, ast.ClassDef, ast.ImportFrom, ast.Assign, ast.AugAssign, ast.If, ast.While,
    ast.For, ast.Return, ast.Break, ast.Continue, ast.Pass, ast.Raise, ast.Try, ast.ExceptHandler, ast.Expr,
)
EXPRESSIONS = (
    ast.Constant, ast.Name, ast.List, ast.Tuple, ast.Dict, ast.BinOp, ast.UnaryOp, ast.BoolOp, ast.Compare,
    ast.IfExp, ast.Call, ast.Attribute, ast.Subscript, ast.Slice, ast.ListComp, ast.comprehension, ast.Lambda,
    ast.JoinedStr, ast.FormattedValue,
)
PARTS = (ast.arguments, ast.arg, ast.keyword, ast.alias, ast.expr_context, ast.operator, ast.unaryop, ast.boolop,
         ast.cmpop)
OWN_NAMES = set(
    "len range enumerate zip min max sum abs sorted reversed int str bool list tuple dict set frozenset isinstance "
    "ord repr any all divmod Exception ValueError TypeError KeyError IndexError LookupError ZeroDivisionError "
    "ArithmeticError OverflowError RuntimeError NotImplementedError AttributeError StopIteration".split()
)
METHODS = set(
    "append clear copy count endswith extend find get index insert isalnum isalpha isdigit islower isspace isupper "
    "items join keys ljust lower lstrip partition pop remove replace reverse rfind rjust rpartition rsplit rstrip "
    "setdefault split splitlines startswith strip update upper values zfill bit_length".split()
)
WORDS = (
    r"\b(type|typing|typing_extensions|enum|Enum|IntEnum|StrEnum|Flag|IntFlag|Generic|Protocol|ABC|ABCMeta|namedtuple"
    r"|NamedTuple|TypedDict|TYPE_CHECKING|abstractmethod|register|mro|elements|open|input|version_info"
    r"|with_traceback|add_note)\b|dataclass|overload|contextmanager"
)


def package_files():
    return sorted(path for path in PACKAGE.rglob("*") if "__pycache__" not in path.parts)


def trees():
    return [(path.name, ast.parse(path.read_text(encoding="utf-8"))) for path in package_files()]


def nodes(kind):
    return [(name, node) for name, tree in trees() for node in ast.walk(tree) if isinstance(node, kind)]


class LanguageTest(unittest.TestCase):
    def test_files(self):
        self.assertIn(PACKAGE / "__init__.py", package_files())
        for path in package_files():
            self.assertTrue(path.is_file() and path.parent == PACKAGE, path)
            self.assertRegex(path.name, r"^(__init__|__main__|[a-z][a-z0-9_]*)\.py$")

    def test_signs_and_sizes(self):
        for path in package_files():
            text = path.read_bytes().decode("ascii")
            self.assertIsNone(re.search(r"[^ -~\n]", text), path)
            self.assertIsNone(re.search(WORDS, text), path)
            rows = text.split("\n")
            self.assertLessEqual(len(rows), 400, path)
            self.assertLessEqual(max(len(row) for row in rows), 120, path)
        for name, node in nodes(ast.FunctionDef):
            self.assertLessEqual(node.end_lineno - node.lineno + 1, 40, (name, node.name))

    def test_forms(self):
        for name, tree in trees():
            for node in ast.walk(tree):
                self.assertIsInstance(node, STATEMENTS + EXPRESSIONS + PARTS, name)
        for name, node in nodes(ast.Constant):
            self.assertIsInstance(node.value, (int, str, type(None)), (name, node.lineno))
        for name, node in nodes(ast.Assign):
            self.assertEqual(len(node.targets), 1, (name, node.lineno))
        for name, node in nodes(ast.ListComp):
            self.assertEqual(len(node.generators), 1, (name, node.lineno))
            self.assertLessEqual(len(node.generators[0].ifs), 1, (name, node.lineno))
        for name, node in nodes((ast.For, ast.While)):
            self.assertEqual(node.orelse, [], (name, node.lineno))
        for name, node in nodes(ast.BinOp):
            self.assertNotIsInstance(node.op, (ast.Div, ast.MatMult), (name, node.lineno))
        for name, node in nodes(ast.FunctionDef):
            self.assertEqual((node.decorator_list, node.args.vararg, node.args.kwarg, node.args.kwonlyargs),
                             ([], None, None, []), (name, node.name))
        for name, node in nodes(ast.ClassDef):
            self.assertLessEqual(len(node.bases), 1, (name, node.name))
            for part in node.body:
                self.assertIsInstance(part, (ast.FunctionDef, ast.Pass), (name, node.name))

    def test_imports_draw_from_the_defining_file_and_in_no_ring(self):
        drawn = {name: [] for name, _ in trees()}
        for name, node in nodes(ast.ImportFrom):
            self.assertEqual((node.level, node.module.split(".")[0], node.col_offset), (0, "waitwheel", 0), name)
            source = node.module.split(".")[1] + ".py"
            drawn[name].append(source)
            tops = [top for at, tree in trees() if at == source for top in tree.body]
            defined = [top.name for top in tops if isinstance(top, (ast.FunctionDef, ast.ClassDef))]
            for alias in node.names:
                self.assertIn(alias.name, defined, name)
        self.assertEqual(drawn["__init__.py"], [])
        while drawn:
            free = [name for name in drawn if not any(source in drawn for source in drawn[name])]
            self.assertTrue(free, drawn)
            drawn = {name: sources for name, sources in drawn.items() if name not in free}

    def test_names(self):
        for name, node in nodes((ast.Name, ast.arg)):
            word = node.id if isinstance(node, ast.Name) else node.arg
            self.assertRegex(word, r"^[A-Za-z][A-Za-z0-9_]*$", name)
            if hasattr(builtins, word):
                self.assertIn(word, OWN_NAMES, (name, node.lineno))
                self.assertIsInstance(getattr(node, "ctx", None), ast.Load, (name, node.lineno))

    def test_methods(self):
        own = {part.name for _, node in nodes(ast.ClassDef) for part in node.body if isinstance(part, ast.FunctionDef)}
        values = {node.attr for _, node in nodes(ast.Attribute) if isinstance(node.ctx, ast.Store)}
        self.assertEqual(own & values, set())
        for name, node in nodes(ast.Call):
            if isinstance(node.func, ast.Attribute):
                self.assertIn(node.func.attr, METHODS | own, (name, node.lineno))
        for word in own | values:
            if not word.startswith("__"):
                for kind in (str, int, list, dict, set, bytes, tuple):
                    self.assertFalse(hasattr(kind, word), word)

    def test_names_of_a_file_are_bound_once_and_not_used_otherwise(self):
        for name, tree in trees():
            drawn = [alias.name for node in tree.body if isinstance(node, ast.ImportFrom) for alias in node.names]
            made = [node.name for node in tree.body if isinstance(node, (ast.FunctionDef, ast.ClassDef))]
            given = [node.targets[0].id for node in tree.body if isinstance(node, ast.Assign)]
            tops = drawn + made + given
            self.assertEqual(len(set(tops)), len(tops), name)
            for part in [node for node in tree.body if isinstance(node, (ast.FunctionDef, ast.ClassDef))]:
                for node in ast.walk(part):
                    word = getattr(node, "arg", None) if isinstance(node, ast.arg) else getattr(node, "id", None)
                    if isinstance(node, ast.arg) or isinstance(getattr(node, "ctx", None), ast.Store):
                        self.assertNotIn(word, tops, name)
            for node in tree.body:
                if isinstance(node, ast.Assign):
                    self.assertIsInstance(node.value, ast.Constant, (name, node.lineno))

    def test_errors(self):
        own = {node.name for _, node in nodes(ast.ClassDef)}
        for name, node in nodes(ast.Raise):
            self.assertIsInstance(node.exc, ast.Call, (name, node.lineno))
            self.assertIn(node.exc.func.id, own, (name, node.lineno))
        for name, node in nodes(ast.ExceptHandler):
            self.assertIn(node.type.id, own, (name, node.lineno))
            causes = [part.cause.id for part in ast.walk(node) if isinstance(part, ast.Raise) and part.cause]
            self.assertLessEqual(set(causes), {node.name}, (name, node.lineno))

    def test_is_stands_beside_none_alone(self):
        for name, node in nodes(ast.Compare):
            for kind, right in zip(node.ops, node.comparators):
                if isinstance(kind, (ast.Is, ast.IsNot)):
                    self.assertIsInstance(right, ast.Constant, (name, node.lineno))
                    self.assertIn(right.value, (None, True, False), (name, node.lineno))

    def test_texts(self):
        for name, node in nodes(ast.Constant):
            if isinstance(node.value, str):
                self.assertIsNone(re.search(r"[%{}]", node.value), (name, node.lineno))
        for name, node in nodes(ast.FormattedValue):
            self.assertIsInstance(node.value, ast.Name, (name, node.lineno))
            self.assertIsNone(node.format_spec, (name, node.lineno))
        for path in package_files():
            self.assertIsNone(re.search(r"\\[^nt\\\"']", path.read_text(encoding="utf-8")), path)

    def test_walked_at_once(self):
        lazy = ("zip", "enumerate", "reversed", "range", "items", "keys", "values")
        takers = ("list", "tuple", "dict", "sorted", "sum", "any", "all", "enumerate", "zip", "min", "max")
        for name, tree in trees():
            fine = [node.iter for node in ast.walk(tree) if isinstance(node, (ast.For, ast.comprehension))]
            fine += [node.args[0] for node in ast.walk(tree)
                     if isinstance(node, ast.Call) and isinstance(node.func, ast.Name) and node.func.id in takers]
            for node in ast.walk(tree):
                if isinstance(node, ast.Call):
                    word = node.func.id if isinstance(node.func, ast.Name) else node.func.attr
                    if word in lazy:
                        self.assertIn(node, fine, (name, node.lineno))

    def test_no_sets_no_powers_and_no_keywords(self):
        for name, node in nodes(ast.Call):
            self.assertEqual(node.keywords, [], (name, node.lineno))
            self.assertNotIn(getattr(node.func, "id", None), ("set", "frozenset"), (name, node.lineno))
        for name, node in nodes(ast.BinOp):
            self.assertNotIsInstance(node.op, ast.Pow, (name, node.lineno))


if __name__ == "__main__":
    unittest.main()
