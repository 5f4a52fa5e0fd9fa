"""Those of the rules of ../shared/LANGUAGE.md that can be seen in the code's form."""

import ast
import builtins
import re
import unittest
from pathlib import Path

PACKAGE = Path(__file__).resolve().parent.parent / "fundlinks"

OWN_NAMES = """len range enumerate zip min max sum abs sorted reversed int str bool list tuple dict set frozenset
isinstance ord repr any all divmod Exception ValueError TypeError KeyError IndexError LookupError ZeroDivisionError
ArithmeticError OverflowError RuntimeError NotImplementedError AttributeError StopIteration""".split()

OWN_METHODS = """append clear copy count endswith extend find get index insert isalnum isalpha isdigit islower isspace
isupper items join keys ljust lower lstrip partition pop remove replace reverse rfind rjust rpartition rsplit rstrip
setdefault split splitlines startswith strip update upper values zfill bit_length""".split()

BANNED_WORDS = """type typing typing_extensions enum Enum IntEnum StrEnum Flag IntFlag Generic Protocol ABC ABCMeta
namedtuple NamedTuple TypedDict TYPE_CHECKING abstractmethod""".split()

BANNED_NAMES = """register mro elements open input version_info with_traceback add_note attrgetter breakpoint builtins
compile copyright credits delattr dir eval exec exit gc getattr globals hasattr help id importlib license locals
methodcaller os quit setattr super sys type vars format format_map""".split()

NODES = """Module Expr FunctionDef ClassDef Return Assign AugAssign If While For Break Continue Pass Raise Try
ExceptHandler ImportFrom alias arguments arg Call Name Attribute Subscript Slice Constant List Tuple Dict Set ListComp
comprehension BinOp BoolOp UnaryOp Compare IfExp Lambda JoinedStr FormattedValue keyword Load Store Add Sub Mult
FloorDiv Mod Pow BitAnd BitOr BitXor LShift RShift Invert And Or Not USub Eq NotEq Lt LtE Gt GtE In NotIn Is
IsNot""".split()


def files():
    return sorted(PACKAGE.glob("*.py"))


def bound_at_top(tree):
    names = []
    for node in tree.body:
        if isinstance(node, (ast.FunctionDef, ast.ClassDef)):
            names.append(node.name)
        if isinstance(node, ast.Assign):
            names.append(node.targets[0].id)
    return names


def bound_names(tree):
    for node in ast.walk(tree):
        if isinstance(node, (ast.FunctionDef, ast.ClassDef)):
            yield node.name
        if isinstance(node, ast.arg):
            yield node.arg
        if isinstance(node, ast.Name) and isinstance(node.ctx, ast.Store):
            yield node.id
        if isinstance(node, ast.Attribute) and isinstance(node.ctx, ast.Store):
            yield node.attr


class Language(unittest.TestCase):
    def setUp(self):
        self.texts = {path: path.read_text(encoding="utf-8") for path in files()}
        self.trees = {path: ast.parse(text) for path, text in self.texts.items()}

    def each_node(self):
        for path, tree in self.trees.items():
            for node in ast.walk(tree):
                yield f"{path.name}:{getattr(node, 'lineno', 0)}", node

    def test_files(self):
        self.assertIn("__init__.py", [path.name for path in files()])
        for path in PACKAGE.iterdir():
            self.assertTrue(path.name == "__pycache__" or re.fullmatch(r"[a-z0-9_]+\.py", path.name), path)
            self.assertNotIn(path.stem, dir(builtins))

    def test_signs_and_sizes(self):
        for path, text in self.texts.items():
            self.assertRegex(text, r"\A[\n -~]*\Z", path)
            lines = text.split("\n")
            self.assertLessEqual(len(lines), 400, path)
            self.assertLessEqual(max(len(line) for line in lines), 120, path)
        for where, node in self.each_node():
            if isinstance(node, ast.FunctionDef):
                self.assertLessEqual(node.end_lineno - node.lineno + 1, 40, where)

    def test_imports(self):
        drawn = {}
        for path, tree in self.trees.items():
            for node in ast.walk(tree):
                if isinstance(node, ast.ImportFrom):
                    self.assertIn(node, tree.body)
                    self.assertEqual(node.level, 0)
                    self.assertRegex(node.module, r"\Afundlinks\.[a-z]+\Z")
                    source = PACKAGE / (node.module.split(".")[1] + ".py")
                    for name in node.names:
                        self.assertIn(name.name, bound_at_top(self.trees[source]))
                        self.assertIsNone(name.asname)
                    drawn.setdefault(path, []).append(source)
        while drawn:
            free = [path for path in drawn if not any(source in drawn for source in drawn[path])]
            self.assertTrue(free, "files draw from one another")
            for path in free:
                del drawn[path]

    def test_forms(self):
        for where, node in self.each_node():
            self.assertIn(node.__class__.__name__, NODES, where)
            if isinstance(node, ast.Constant):
                self.assertIn(node.value.__class__.__name__, ("int", "str", "bool", "NoneType"), where)
            if isinstance(node, ast.Constant) and isinstance(node.value, str):
                self.assertNotIn("%", node.value, where)
            if isinstance(node, ast.Assign):
                self.assertEqual(len(node.targets), 1, where)
            if isinstance(node, (ast.For, ast.While, ast.Try)):
                self.assertEqual(node.orelse if not isinstance(node, ast.Try) else node.finalbody, [], where)
            if isinstance(node, (ast.FunctionDef, ast.ClassDef)):
                self.assertEqual(node.decorator_list, [], where)
            if isinstance(node, ast.BinOp) and isinstance(node.op, ast.Pow):
                self.assertIsInstance(node.right, ast.Constant, where)
            if isinstance(node, ast.ListComp):
                self.assertEqual(len(node.generators), 1, where)
                self.assertLessEqual(len(node.generators[0].ifs), 1, where)

    def test_the_top_of_a_file(self):
        for path, tree in self.trees.items():
            for node in tree.body:
                kinds = (ast.Expr, ast.ImportFrom, ast.FunctionDef, ast.ClassDef, ast.Assign)
                self.assertIsInstance(node, kinds, path)
                if isinstance(node, ast.Expr):
                    self.assertIs(node, tree.body[0], path)
            names = bound_at_top(tree)
            self.assertEqual(len(names), len(set(names)), path)

    def test_names(self):
        methods = [node.name for where, node in self.each_node() if isinstance(node, ast.FunctionDef)]
        for path, tree in self.trees.items():
            taken = dir(builtins) + [name.name for node in tree.body if isinstance(node, ast.ImportFrom)
                                     for name in node.names]
            for name in bound_names(tree):
                self.assertTrue(name == "__init__" or not name.startswith("_"), f"{path}: {name}")
                self.assertNotIn(name, taken, path)
                self.assertNotIn(name, BANNED_NAMES, path)
            for word in re.findall(r"[A-Za-z_0-9]+", self.texts[path]):
                self.assertNotIn(word, BANNED_WORDS, path)
            for node in ast.walk(tree):
                if isinstance(node, ast.Name) and node.id in dir(builtins):
                    self.assertIn(node.id, OWN_NAMES, path)
                if isinstance(node, ast.Call) and isinstance(node.func, ast.Attribute):
                    self.assertIn(node.func.attr, OWN_METHODS + methods, path)

    def test_no_name_is_a_method_here_and_a_value_there(self):
        methods = []
        stored = []
        for where, node in self.each_node():
            if isinstance(node, ast.ClassDef):
                methods += [item.name for item in node.body if isinstance(item, ast.FunctionDef)]
            if isinstance(node, ast.Attribute) and isinstance(node.ctx, ast.Store):
                stored.append(node.attr)
        self.assertEqual(set(methods) & set(stored), set())
        self.assertEqual(set(stored) & set(OWN_METHODS), set())


if __name__ == "__main__":
    unittest.main()
