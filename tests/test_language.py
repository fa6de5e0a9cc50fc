"""The package keeps to the small part of Python that it is to be written in (L1 to L28).

What can be read from a file alone is asked for here; not every row of every rule can.
"""

import ast
import builtins
import pathlib
import re
import unittest

PACKAGE = pathlib.Path(__file__).resolve().parent.parent / "shapedrewards"

FREE_NAMES = set(
    "len range enumerate zip min max sum abs sorted reversed int str bool list tuple dict set frozenset isinstance ord "
    "repr any all divmod Exception ValueError TypeError KeyError IndexError LookupError ZeroDivisionError "
    "ArithmeticError OverflowError RuntimeError NotImplementedError AttributeError StopIteration".split()
)

METHODS = set(
    "append clear copy count endswith extend find get index insert isalnum isalpha isdigit islower isspace isupper "
    "items join keys ljust lower lstrip partition pop remove replace reverse rfind rjust rpartition rsplit rstrip "
    "setdefault split splitlines startswith strip update upper values zfill bit_length".split()
)

SPECIAL_METHODS = set("__init__ __eq__ __repr__ __str__ __len__".split())

NODES = set(
    "Module Import ImportFrom alias FunctionDef arguments arg Lambda ClassDef Assign AugAssign AnnAssign If While For "
    "Return Break Continue Pass Raise Try ExceptHandler Expr Constant List Tuple Dict Set BinOp Add Sub Mult FloorDiv "
    "Mod Pow LShift RShift BitOr BitXor BitAnd UnaryOp Not USub Invert Compare Eq NotEq Lt LtE Gt GtE Is IsNot In "
    "NotIn BoolOp And Or IfExp Call Attribute Subscript Slice ListComp comprehension JoinedStr FormattedValue keyword "
    "Name Load Store".split()
)

UNUSED_NAMES = set(
    "register mro elements open input version_info with_traceback add_note attrgetter breakpoint builtins compile "
    "copyright credits delattr dir eval exec exit gc getattr globals hasattr help id importlib license locals "
    "methodcaller os quit setattr super vars sys __name__ chr".split()
)

UNUSED_WORDS = (
    r"\b(type|typing|typing_extensions|enum|Enum|IntEnum|StrEnum|Flag|IntFlag|Generic|Protocol|ABC|ABCMeta|namedtuple|"
    r"NamedTuple|TypedDict|TYPE_CHECKING|abstractmethod)\b|dataclass|overload|contextmanager"
)

WALKED_AT_ONCE = {"zip", "enumerate", "reversed", "range"}
WALKERS = {"list", "tuple", "dict", "sorted", "sum", "any", "all", "enumerate", "zip", "min", "max"}


def trees():
    return {path.name: ast.parse(path.read_text()) for path in sorted(PACKAGE.glob("*.py"))}


def bound_names(tree):
    """Every name that a file binds by itself: functions, classes, parameters and what is assigned."""
    for node in ast.walk(tree):
        if isinstance(node, (ast.FunctionDef, ast.ClassDef)):
            yield node.name
        elif isinstance(node, ast.arg):
            yield node.arg
        elif isinstance(node, ast.Name) and isinstance(node.ctx, ast.Store):
            yield node.id


class Files(unittest.TestCase):
    def test_nothing_but_python_files_in_one_folder(self):
        for path in PACKAGE.iterdir():
            if path.name != "__pycache__":
                self.assertTrue(path.is_file() and re.fullmatch(r"[a-z][a-z0-9_]*\.py|__init__\.py", path.name), path)

    def test_signs_and_sizes(self):
        for path in PACKAGE.glob("*.py"):
            text = path.read_bytes().decode("utf-8")
            self.assertFalse([sign for sign in text if sign != "\n" and not " " <= sign <= "~"], path)
            lines = text.split("\n")
            self.assertLessEqual(len(lines), 399, path)
            self.assertLessEqual(max(len(line) for line in lines), 120, path)

    def test_no_word_that_is_not_used(self):
        for path in PACKAGE.glob("*.py"):
            self.assertIsNone(re.search(UNUSED_WORDS, path.read_text()), path)


class Tops(unittest.TestCase):
    def test_a_docstring_then_imports_functions_classes_and_plain_values(self):
        for name, tree in trees().items():
            self.assertIsNotNone(ast.get_docstring(tree), name)
            for node in tree.body[1:]:
                self.assertIsInstance(node, (ast.ImportFrom, ast.FunctionDef, ast.ClassDef, ast.Assign), name)

    def test_imports_are_of_the_package_and_from_the_file_that_defines_the_name(self):
        files = trees()
        drawn = {}
        for name, tree in files.items():
            drawn[name] = set()
            for node in ast.walk(tree):
                self.assertNotIsInstance(node, ast.Import, name)
                if isinstance(node, ast.ImportFrom):
                    self.assertIn(node, tree.body, name)
                    self.assertEqual(node.level, 0, name)
                    self.assertRegex(node.module, r"^shapedrewards\.\w+$")
                    source = node.module.split(".")[1] + ".py"
                    defined = {n for part in files[source].body for n in self.tops(part)}
                    self.assertLessEqual({alias.name for alias in node.names}, defined, name)
                    self.assertFalse([alias for alias in node.names if alias.asname], name)
                    drawn[name].add(source)
        # What no file draws from, over and over: nothing is left if no two draw from one another.
        while any(not sources & drawn.keys() for sources in drawn.values()):
            drawn = {name: sources for name, sources in drawn.items() if sources & drawn.keys()}
        self.assertEqual(drawn, {})

    def tops(self, node):
        if isinstance(node, (ast.FunctionDef, ast.ClassDef)):
            return [node.name]
        if isinstance(node, ast.Assign):
            return [node.targets[0].id]
        return []

    def test_each_name_is_bound_once(self):
        for name, tree in trees().items():
            tops = [top for node in tree.body for top in self.tops(node)]
            imported = [a.name for node in tree.body if isinstance(node, ast.ImportFrom) for a in node.names]
            self.assertEqual(len(tops + imported), len(set(tops + imported)), name)
            inner = [
                bound
                for node in tree.body
                if isinstance(node, (ast.FunctionDef, ast.ClassDef))
                for bound in bound_names(node)
                if bound != node.name
            ]
            self.assertFalse(set(inner) & set(tops + imported), name)

    def test_the_function_of_the_interface_stands_in_its_file_alone(self):
        found = {name for name, tree in trees().items() if "answers" in [t for n in tree.body for t in self.tops(n)]}
        self.assertEqual(found, {"process.py"})


class Within(unittest.TestCase):
    def walk(self):
        for name, tree in trees().items():
            for node in ast.walk(tree):
                yield name, node

    def test_only_the_statements_and_expressions_that_are_free(self):
        for name, node in self.walk():
            where = (name, getattr(node, "lineno", 0), type(node).__name__)
            self.assertIn(type(node).__name__, NODES, where)
            if isinstance(node, ast.Constant):
                self.assertTrue(node.value is None or isinstance(node.value, (int, str)), where)
            if isinstance(node, (ast.While, ast.For)):
                self.assertEqual(node.orelse, [], where)
            if isinstance(node, ast.Assign):
                self.assertEqual(len(node.targets), 1, where)
            if isinstance(node, ast.Try):
                self.assertEqual(node.finalbody, [], where)
            if isinstance(node, ast.ListComp):
                self.assertEqual(len(node.generators), 1, where)
                self.assertLessEqual(len(node.generators[0].ifs), 1, where)
            if isinstance(node, ast.BinOp) and isinstance(node.op, ast.Pow):
                self.assertIsInstance(node.right, ast.Constant, where)
            if isinstance(node, ast.Set):
                self.assertLess(len(node.elts), 3, where)
            if isinstance(node, ast.Compare) and isinstance(node.ops[0], (ast.Is, ast.IsNot)):
                self.assertIsInstance(node.comparators[0], ast.Constant, where)

    def test_functions_are_plain_and_short(self):
        for name, node in self.walk():
            if isinstance(node, ast.FunctionDef):
                self.assertLessEqual(node.end_lineno - node.lineno + 1, 40, (name, node.name))
                self.assertEqual(node.decorator_list, [], (name, node.name))
                given = node.args
                self.assertFalse(given.vararg or given.kwarg or given.kwonlyargs or given.posonlyargs, node.name)
                self.assertIsNone(node.returns, (name, node.name))
            if isinstance(node, ast.ClassDef):
                self.assertEqual(node.decorator_list, [], (name, node.name))
                self.assertLessEqual(len(node.bases), 1, (name, node.name))

    def test_names(self):
        for name, tree in trees().items():
            for bound in bound_names(tree):
                if bound not in SPECIAL_METHODS:
                    self.assertRegex(bound, r"^[A-Za-z][A-Za-z0-9_]*$", name)
                    self.assertNotIn(bound, dir(builtins), name)
                    self.assertNotIn(bound, UNUSED_NAMES, name)
            known = set(bound_names(tree)) | FREE_NAMES
            known |= {a.name for node in tree.body if isinstance(node, ast.ImportFrom) for a in node.names}
            for node in ast.walk(tree):
                if isinstance(node, ast.Name):
                    self.assertIn(node.id, known, (name, node.lineno))

    def test_methods_of_values_are_among_the_free_ones(self):
        own = {node.name for _, node in self.walk() if isinstance(node, ast.FunctionDef)}
        for name, node in self.walk():
            if isinstance(node, ast.Call) and isinstance(node.func, ast.Attribute):
                self.assertIn(node.func.attr, METHODS | own, (name, node.lineno))

    def test_what_is_walked_at_once_is_not_kept(self):
        for name, tree in trees().items():
            walked = set()
            for node in ast.walk(tree):
                if isinstance(node, (ast.For, ast.comprehension)):
                    walked.add(node.iter)
                if isinstance(node, ast.Call) and isinstance(node.func, ast.Name) and node.func.id in WALKERS:
                    walked.update(node.args[:1])
            for node in ast.walk(tree):
                if isinstance(node, ast.Call) and isinstance(node.func, ast.Name) and node.func.id in WALKED_AT_ONCE:
                    self.assertIn(node, walked, (name, node.lineno))


if __name__ == "__main__":
    unittest.main()
