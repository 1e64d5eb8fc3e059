"""Some rules of the small part of Python that the package keeps to.

Looked at, in whole or in part: L1 to L8, L10, L12, L14 to L18, L20 to L28. The others are not.
"""

import ast
import builtins
import pathlib
import re
import unittest

PACKAGE = pathlib.Path(__file__).resolve().parent.parent / "rotaward"
FILES = sorted(path for path in PACKAGE.rglob("*") if path.is_file() and "__pycache__" not in path.parts)

ERRORS = set(
    "Exception ValueError TypeError KeyError IndexError LookupError ZeroDivisionError ArithmeticError OverflowError"
    " RuntimeError NotImplementedError AttributeError StopIteration".split()
)
OWN_NAMES = ERRORS | set(
    "len range enumerate zip min max sum abs sorted reversed int str bool list tuple dict set frozenset isinstance ord"
    " repr any all divmod".split()
)
METHODS = set(
    "append clear copy count endswith extend find get index insert isalnum isalpha isdigit islower isspace isupper"
    " items join keys ljust lower lstrip partition pop remove replace reverse rfind rjust rpartition rsplit rstrip"
    " setdefault split splitlines startswith strip update upper values zfill bit_length".split()
)
KEYWORDS = {"sorted": {"key", "reverse"}, "min": {"key", "default"}, "max": {"key", "default"}, "sum": {"start"},
            "enumerate": {"start"}, "zip": {"strict"}}
UNDERSCORED = ["__init__", "__eq__", "__repr__", "__str__", "__len__"]
NOWHERE = "register mro elements open input version_info with_traceback add_note format format_map".split()
WORDS = re.compile(
    r"\b(type|typing|typing_extensions|enum|Enum|IntEnum|StrEnum|Flag|IntFlag|Generic|Protocol|ABC|ABCMeta|namedtuple"
    r"|NamedTuple|TypedDict|TYPE_CHECKING|abstractmethod)\b|dataclass|overload|contextmanager"
)
NODES = set(
    "Module Expr Constant ImportFrom alias FunctionDef Lambda arguments arg ClassDef Assign AugAssign If While For"
    " Return Break Continue Pass Raise Try ExceptHandler Call keyword Name Attribute Subscript Slice List Tuple Dict Set"
    " ListComp comprehension JoinedStr FormattedValue BinOp UnaryOp BoolOp Compare IfExp Load Store And Or Not Invert"
    " USub Add Sub Mult FloorDiv Mod Pow BitAnd BitOr BitXor LShift RShift Eq NotEq Lt LtE Gt GtE Is IsNot In"
    " NotIn".split()
)


def trees():
    return [(path.name, ast.parse(path.read_text(encoding="utf-8"))) for path in FILES]


def nodes(kinds):
    return [(name, node) for name, tree in trees() for node in ast.walk(tree) if isinstance(node, kinds)]


def defined(tree):
    names = [node.name for node in tree.body if isinstance(node, (ast.FunctionDef, ast.ClassDef))]
    for node in tree.body:
        if isinstance(node, ast.Assign):
            names.extend(target.id for target in node.targets)
    return names


def imported(tree):
    return [alias.name for node in tree.body if isinstance(node, ast.ImportFrom) for alias in node.names]


def calls_of(names):
    found = []
    for name, node in nodes(ast.Call):
        word = getattr(node.func, "id", None) or getattr(node.func, "attr", None)
        if word in names:
            found.append((name, node))
    return found


class Texts(unittest.TestCase):
    def test_files(self):
        self.assertIn(PACKAGE / "__init__.py", FILES)
        for path in FILES:
            self.assertRegex(path.name, r"^[a-z_][a-z0-9_]*\.py$")

    def test_signs_and_sizes(self):
        for path in FILES:
            text = path.read_text(encoding="utf-8")
            rows = text.split("\n")
            with self.subTest(path=path.name):
                self.assertRegex(text, r"\A[ -~\n]*\Z")
                self.assertLessEqual(len(rows), 400)
                self.assertLessEqual(max(len(row) for row in rows), 120)
                self.assertIsNone(WORDS.search(text))

    def test_functions_are_short(self):
        for name, node in nodes(ast.FunctionDef):
            self.assertLessEqual(node.end_lineno - node.lineno + 1, 40, f"{name}: {node.name}")


class Imports(unittest.TestCase):
    def test_the_packages_own_by_their_full_names(self):
        tops = {f"rotaward.{name[:-3]}": defined(tree) for name, tree in trees()}
        for name, node in nodes((ast.Import, ast.ImportFrom)):
            with self.subTest(name=name, row=node.lineno):
                self.assertIsInstance(node, ast.ImportFrom)
                self.assertEqual(node.level, 0)
                for alias in node.names:
                    self.assertIn(alias.name, tops[node.module])

    def test_no_two_files_draw_from_one_another(self):
        drawn = {name[:-3]: set() for name, tree in trees()}
        for name, node in nodes(ast.ImportFrom):
            drawn[name[:-3]].add(node.module.split(".")[-1])
        while drawn:
            free = [name for name in drawn if not drawn[name] & set(drawn)]
            self.assertTrue(free, sorted(drawn))
            for name in free:
                del drawn[name]


class Tops(unittest.TestCase):
    def test_only_what_may_stand_at_a_files_top(self):
        for name, tree in trees():
            self.assertIsNotNone(ast.get_docstring(tree), name)
            for node in tree.body[1:]:
                self.assertIsInstance(node, (ast.ImportFrom, ast.FunctionDef, ast.ClassDef, ast.Assign), name)
                if isinstance(node, ast.Assign):
                    self.assertIsInstance(node.value, ast.Constant, f"{name}:{node.lineno}")

    def test_each_name_is_bound_once(self):
        for name, tree in trees():
            names = defined(tree) + imported(tree)
            self.assertEqual(len(names), len(set(names)), name)

    def test_no_local_is_called_like_a_class_or_an_import(self):
        for name, tree in trees():
            classes = [node.name for node in tree.body if isinstance(node, ast.ClassDef)]
            taken = set(classes + imported(tree))
            for part in ast.walk(tree):
                if isinstance(part, ast.arg):
                    self.assertNotIn(part.arg, taken, f"{name}:{part.lineno}")
                if isinstance(part, ast.Name) and isinstance(part.ctx, ast.Store):
                    self.assertNotIn(part.id, taken, f"{name}:{part.lineno}")

    def test_classes_hold_methods_alone_and_have_at_most_one_base(self):
        for name, node in nodes(ast.ClassDef):
            self.assertLessEqual(len(node.bases), 1, f"{name}:{node.lineno}")
            for part in node.body:
                self.assertIsInstance(part, (ast.FunctionDef, ast.Pass), f"{name}:{part.lineno}")
            names = [part.name for part in node.body if isinstance(part, ast.FunctionDef)]
            self.assertEqual(len(names), len(set(names)), f"{name}:{node.lineno}")


class Trees(unittest.TestCase):
    def test_only_the_forms_of_the_small_part(self):
        for name, node in nodes(ast.AST):
            self.assertIn(type(node).__name__, NODES, f"{name}:{getattr(node, 'lineno', 0)}")

    def test_what_has_no_place_in_these_forms(self):
        for name, node in nodes(ast.AST):
            where = f"{name}:{getattr(node, 'lineno', 0)}"
            if isinstance(node, ast.Assign):
                self.assertEqual(len(node.targets), 1, where)
            if isinstance(node, (ast.FunctionDef, ast.ClassDef)):
                self.assertEqual(node.decorator_list, [], where)
            if isinstance(node, ast.arguments):
                self.assertEqual((node.vararg, node.kwarg, node.kwonlyargs), (None, None, []), where)
            if isinstance(node, (ast.For, ast.While)):
                self.assertEqual(node.orelse, [], where)
            if isinstance(node, ast.Try):
                self.assertEqual(node.finalbody, [], where)
            if isinstance(node, ast.ListComp):
                self.assertEqual(len(node.generators), 1, where)
                self.assertLessEqual(len(node.generators[0].ifs), 1, where)
            if isinstance(node, ast.Constant):
                self.assertIn(type(node.value), (int, str, bool, type(None)), where)
            if isinstance(node, ast.BinOp) and isinstance(node.op, ast.Pow):
                self.assertIsInstance(node.right, ast.Constant, where)
                self.assertIn(node.right.value, range(65), where)

    def test_names(self):
        python = set(dir(builtins)) - OWN_NAMES
        for name, node in nodes((ast.Name, ast.arg, ast.FunctionDef, ast.ClassDef)):
            word = getattr(node, "id", None) or getattr(node, "arg", None) or node.name
            with self.subTest(name=name, row=node.lineno, word=word):
                self.assertTrue(word in UNDERSCORED or not word.startswith("_"))
                self.assertNotIn(word, NOWHERE)
                if isinstance(node, ast.Name):
                    self.assertNotIn(word, python)
                if isinstance(node, ast.arg) or isinstance(getattr(node, "ctx", None), ast.Store):
                    self.assertFalse(hasattr(builtins, word))

    def test_methods_that_are_called(self):
        own = {node.name for name, node in nodes(ast.FunctionDef)}
        for name, node in nodes(ast.Call):
            if isinstance(node.func, ast.Attribute):
                self.assertIn(node.func.attr, METHODS | own, f"{name}:{node.lineno}")

    def test_no_name_is_a_method_here_and_a_value_there(self):
        methods = {
            part.name for name, node in nodes(ast.ClassDef) for part in node.body if isinstance(part, ast.FunctionDef)
        }
        values = {node.attr for name, node in nodes(ast.Attribute) if isinstance(node.ctx, ast.Store)}
        self.assertEqual(methods & values, set())

    def test_own_methods_and_values_have_free_names(self):
        python = {word for kind in (str, int, list, dict, set, bytes, tuple) for word in dir(kind)}
        for name, node in nodes(ast.ClassDef):
            for part in node.body:
                if isinstance(part, ast.FunctionDef) and part.name not in UNDERSCORED:
                    self.assertNotIn(part.name, python, f"{name}:{part.lineno}")
        for name, node in nodes(ast.Attribute):
            if isinstance(node.ctx, ast.Store):
                self.assertNotIn(node.attr, python, f"{name}:{node.lineno}")

    def test_what_is_walked_at_once_is_not_kept(self):
        walked = [(name, node.iter) for name, node in nodes((ast.For, ast.comprehension))]
        for name, node in calls_of("list tuple dict sorted sum any all enumerate zip min max".split()):
            walked.extend((name, thing) for thing in node.args[:1])
        places = [(name, ast.dump(node, include_attributes=True)) for name, node in walked]
        for name, node in calls_of("zip enumerate reversed range items keys values".split()):
            self.assertIn((name, ast.dump(node, include_attributes=True)), places, f"{name}:{node.lineno}")

    def test_keywords_of_pythons_own(self):
        for name, node in nodes(ast.Call):
            word = getattr(node.func, "id", None) or getattr(node.func, "attr", None)
            if word in OWN_NAMES | METHODS:
                self.assertLessEqual({part.arg for part in node.keywords}, KEYWORDS.get(word, set()), f"{name}:{node.lineno}")

    def test_no_sets(self):
        # Narrower than the rule, which lets one stand beside in: none has been needed.
        self.assertEqual(calls_of(["set", "frozenset"]), [])
        self.assertEqual(nodes(ast.Set), [])

    def test_no_annotations(self):
        for name, node in nodes((ast.FunctionDef, ast.arg)):
            self.assertIsNone(getattr(node, "returns", None), f"{name}:{node.lineno}")
            self.assertIsNone(getattr(node, "annotation", None), f"{name}:{node.lineno}")

    def test_of_the_methods_with_two_underscores_init_alone(self):
        for name, node in nodes(ast.FunctionDef):
            self.assertTrue(node.name == "__init__" or not node.name.startswith("__"), f"{name}:{node.lineno}")
            if node.name == "__init__":
                self.assertEqual([part for part in ast.walk(node) if isinstance(part, ast.Return)], [])

    def test_is_stands_beside_none_true_and_false(self):
        for name, node in nodes(ast.Compare):
            if any(isinstance(op, (ast.Is, ast.IsNot)) for op in node.ops):
                self.assertIsInstance(node.comparators[0], ast.Constant, f"{name}:{node.lineno}")


if __name__ == "__main__":
    unittest.main()
