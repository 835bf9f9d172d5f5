"""Holds the package's files against those rules of the language that can be seen in a file by itself.

A rule's number (L1 to L28) stands in the name or the words of the check.
"""

import ast
import builtins
import pathlib
import re
import unittest

import sketchbounds

FOLDER = pathlib.Path(sketchbounds.__file__).parent
OWN_NAMES = """
    len range enumerate zip min max sum abs sorted reversed int str bool list tuple dict set frozenset isinstance ord
    repr any all divmod Exception ValueError TypeError KeyError IndexError LookupError ZeroDivisionError
    ArithmeticError OverflowError RuntimeError NotImplementedError AttributeError StopIteration
""".split()
OWN_METHODS = """
    append clear copy count endswith extend find get index insert isalnum isalpha isdigit islower isspace isupper items
    join keys ljust lower lstrip partition pop remove replace reverse rfind rjust rpartition rsplit rstrip setdefault
    split splitlines startswith strip update upper values zfill bit_length
""".split()
TWO_UNDERSCORES = "__init__ __eq__ __repr__ __str__ __len__".split()
WORDS_LEFT_OUT = """
    type typing typing_extensions enum Enum IntEnum StrEnum Flag IntFlag Generic Protocol ABC ABCMeta namedtuple
    NamedTuple TypedDict TYPE_CHECKING abstractmethod
""".split()
KEYWORDS = {
    "sorted": ("key", "reverse"), "min": ("key", "default"), "max": ("key", "default"), "sum": ("start",),
    "enumerate": ("start",), "zip": ("strict",),
}
WALKERS = "list tuple dict sorted sum any all enumerate zip min max".split()
PARTS_LEFT_OUT = ("dataclass", "overload", "contextmanager")
NAMES_LEFT_OUT = "register mro elements open input version_info with_traceback add_note format format_map".split()
KINDS = tuple(getattr(ast, name) for name in """
    Module FunctionDef ClassDef arguments arg Return Assign AugAssign For While If Raise Try ExceptHandler ImportFrom
    alias Expr Pass Break Continue BoolOp And Or BinOp Add Sub Mult FloorDiv Mod Pow LShift RShift BitOr BitXor BitAnd
    UnaryOp Invert Not UAdd USub Lambda IfExp Dict Set ListComp comprehension Compare Eq NotEq Lt LtE Gt GtE Is IsNot
    In NotIn Call keyword FormattedValue JoinedStr Constant Attribute Subscript Name List Tuple Slice Load Store
""".split())


def methods_of_pythons_own():
    return {name for kind in (str, int, list, tuple, dict, set, bytes) for name in dir(kind)}


class LanguageTest(unittest.TestCase):
    def setUp(self):
        self.paths = sorted(FOLDER.glob("*.py"))
        self.texts = {path.stem: path.read_text(encoding="utf-8") for path in self.paths}
        self.trees = {name: ast.parse(text) for name, text in self.texts.items()}

    def nodes(self, kind):
        return [(name, node) for name, tree in self.trees.items() for node in ast.walk(tree) if isinstance(node, kind)]

    def own_methods(self):
        return {
            part.name for name, node in self.nodes(ast.ClassDef) for part in node.body
            if isinstance(part, ast.FunctionDef)
        }

    def test_l1_l14_files(self):
        found = [path for path in FOLDER.iterdir() if path.name != "__pycache__"]
        self.assertEqual(sorted(found), self.paths)
        for name in self.texts:
            self.assertRegex(name, r"\A(__init__|[a-z][a-z0-9_]*)\Z")
            self.assertFalse(name.startswith("test") or name in dir(builtins), name)

    def test_l10_l14_signs_and_sizes(self):
        for name, text in self.texts.items():
            self.assertRegex(text, r"\A[ -~\n]*\Z", name)
            lines = text.splitlines()
            self.assertLessEqual(len(lines), 400, name)
            self.assertTrue(all(len(line) <= 120 for line in lines), name)
        for name, node in self.nodes(ast.FunctionDef):
            self.assertLessEqual(node.end_lineno - node.lineno + 1, 40, (name, node.name))

    def test_l17_words(self):
        for name, text in self.texts.items():
            words = re.findall(r"\w+", text)
            self.assertEqual([word for word in words if word in WORDS_LEFT_OUT], [], name)
            self.assertEqual([part for part in PARTS_LEFT_OUT if part in text], [], name)

    def test_l2_l16_imports(self):
        for name, node in self.nodes(ast.ImportFrom):
            package, dot, drawn = node.module.partition(".")
            self.assertEqual((node.level, package), (0, "sketchbounds"), name)
            defined = [part.name for part in self.trees[drawn].body if hasattr(part, "name")]
            given = [
                part.targets[0].id for part in self.trees[drawn].body if isinstance(part, ast.Assign)
            ]
            for each in node.names:
                self.assertIn(each.name, defined + given, name)
        self.assertEqual(len(self.trees["__init__"].body), 1)

    def test_l16_no_two_files_draw_from_one_another(self):
        draws = {name: set() for name in self.trees}
        for name, node in self.nodes(ast.ImportFrom):
            draws[name].add(node.module.partition(".")[2])
        while draws:
            free = [name for name, drawn in draws.items() if not drawn & set(draws)]
            self.assertNotEqual(free, [], sorted(draws))
            for name in free:
                del draws[name]

    def test_l3_l15_top_of_a_module(self):
        for name, tree in self.trees.items():
            self.assertIsNotNone(ast.get_docstring(tree), name)
            for part in tree.body[1:]:
                self.assertIsInstance(part, (ast.ImportFrom, ast.FunctionDef, ast.ClassDef, ast.Assign), name)
            bound = [part.name for part in tree.body if hasattr(part, "name")]
            bound += [part.targets[0].id for part in tree.body if isinstance(part, ast.Assign)]
            self.assertEqual(sorted(bound), sorted(set(bound)), name)

    def test_l4_to_l7_forms(self):
        for name, node in self.nodes(ast.AST):
            self.assertIsInstance(node, KINDS, (name, getattr(node, "lineno", 0)))
        for name, node in self.nodes((ast.FunctionDef, ast.ClassDef)):
            self.assertEqual(node.decorator_list, [], name)
        for name, node in self.nodes(ast.arguments):
            self.assertEqual((node.vararg, node.kwarg, node.kwonlyargs, node.posonlyargs), (None, None, [], []), name)
        for name, node in self.nodes(ast.ClassDef):
            self.assertLessEqual(len(node.bases), 1, name)
            self.assertTrue(all(isinstance(part, (ast.FunctionDef, ast.Pass)) for part in node.body), name)
        for name, node in self.nodes((ast.For, ast.While)):
            self.assertEqual(node.orelse, [], name)
        for name, node in self.nodes(ast.Assign):
            self.assertEqual(len(node.targets), 1, name)
        for name, node in self.nodes(ast.Constant):
            self.assertIn(type(node.value), (int, str, bool, type(None)), name)

    def test_l8_l12_l15_names(self):
        pythons = set(dir(builtins))
        for name, node in self.nodes(ast.Name):
            if node.id in pythons:
                self.assertIn(node.id, OWN_NAMES, (name, node.lineno))
                self.assertIsInstance(node.ctx, ast.Load, (name, node.lineno))
            self.assertFalse(node.id.startswith("_") or node.id in NAMES_LEFT_OUT, (name, node.lineno))
        for name, node in self.nodes(ast.arg):
            self.assertFalse(node.arg in pythons or node.arg.startswith("_"), (name, node.lineno))
        for name, node in self.nodes((ast.FunctionDef, ast.ClassDef)):
            self.assertTrue(node.name in TWO_UNDERSCORES or not node.name.startswith("_"), (name, node.name))

    def test_l17_l25_l26_methods_and_values(self):
        pythons = methods_of_pythons_own()
        own = self.own_methods()
        for name, node in self.nodes(ast.Attribute):
            self.assertNotIn(node.attr, NAMES_LEFT_OUT, (name, node.lineno))
            allowed = node.attr not in pythons or node.attr in own or node.attr in OWN_METHODS
            self.assertTrue(allowed, (name, node.lineno, node.attr))
        for method in own:
            allowed = method not in pythons or method in OWN_METHODS + TWO_UNDERSCORES + ["add", "discard"]
            self.assertTrue(allowed, method)

    def test_l18_no_name_is_a_method_and_a_value(self):
        stored = {node.attr for name, node in self.nodes(ast.Attribute) if isinstance(node.ctx, ast.Store)}
        self.assertEqual(stored & self.own_methods(), set())

    def test_l19_errors_are_made_on_the_spot_and_taken_by_name(self):
        own = [part.name for part in self.trees["errors"].body if isinstance(part, ast.ClassDef)]
        for name, node in self.nodes(ast.Raise):
            self.assertIn(node.exc.func.id, own, (name, node.lineno))
        for name, node in self.nodes(ast.ExceptHandler):
            self.assertIn(node.type.id, own, (name, node.lineno))

    def test_l20_is(self):
        for name, node in self.nodes(ast.Compare):
            for step, right in zip(node.ops, node.comparators):
                if isinstance(step, (ast.Is, ast.IsNot)):
                    self.assertIn(getattr(right, "value", 0), (None, True, False), (name, node.lineno))

    def test_l15_no_local_is_called_like_a_class_or_an_import(self):
        for name, tree in self.trees.items():
            taken = {part.name for part in tree.body if isinstance(part, ast.ClassDef)}
            taken |= {each.name for part in tree.body if isinstance(part, ast.ImportFrom) for each in part.names}
            for node in ast.walk(tree):
                if isinstance(node, ast.arg):
                    self.assertNotIn(node.arg, taken, (name, node.lineno))
                if isinstance(node, ast.Name) and isinstance(node.ctx, ast.Store):
                    self.assertNotIn(node.id, taken, (name, node.lineno))

    def test_l22_keywords(self):
        for name, node in self.nodes(ast.Call):
            allowed = KEYWORDS.get(getattr(node.func, "id", None), ())
            for keyword in node.keywords:
                self.assertIn(keyword.arg, allowed, (name, node.lineno))

    def test_l23_walked_at_once(self):
        walked = []
        for name, node in self.nodes((ast.For, ast.comprehension)):
            walked.append(node.iter)
        for name, node in self.nodes(ast.Call):
            if getattr(node.func, "id", None) in WALKERS or getattr(node.func, "attr", None) == "join":
                walked.extend(node.args[:1])
        for name, node in self.nodes(ast.Call):
            called = getattr(node.func, "id", None) or getattr(node.func, "attr", None)
            if called in ("zip", "enumerate", "reversed", "range", "items", "keys", "values"):
                self.assertTrue(any(node is each for each in walked), (name, node.lineno))

    def test_l24_sets_stand_in_few_places(self):
        within = []
        for name, node in self.nodes(ast.Call):
            if getattr(node.func, "id", None) in ("sorted", "len") and not node.keywords:
                within.extend(node.args)
        for name, node in self.nodes(ast.Call):
            if getattr(node.func, "id", None) in ("set", "frozenset"):
                self.assertTrue(any(node is each for each in within), (name, node.lineno))

    def test_l24_l27_sets_powers_and_texts(self):
        for name, node in self.nodes(ast.BinOp):
            if isinstance(node.op, ast.Pow):
                self.assertIn(getattr(node.right, "value", None), range(65), (name, node.lineno))
        for name, node in self.nodes(ast.Constant):
            if isinstance(node.value, str):
                self.assertNotIn("%", node.value, (name, node.lineno))


if __name__ == "__main__":
    unittest.main()
