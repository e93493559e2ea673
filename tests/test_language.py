"""The package's own files against the rules of ../shared/LANGUAGE.md that can be read off them."""

import ast
import builtins
import pathlib
import re
import unittest

import whokeepsdesk

FOLDER = pathlib.Path(whokeepsdesk.__file__).parent

NODES = """
Module Import ImportFrom alias FunctionDef arguments arg Lambda ClassDef Assign AugAssign If While For Return Break
Continue Pass Raise Try ExceptHandler Expr Constant List Tuple Dict Set BinOp UnaryOp BoolOp Compare IfExp Call
keyword Attribute Subscript Slice ListComp comprehension JoinedStr FormattedValue Name Load Store
Add Sub Mult FloorDiv Mod Pow BitAnd BitOr BitXor LShift RShift Invert USub UAdd Not And Or
Eq NotEq Lt LtE Gt GtE Is IsNot In NotIn
""".split()

OWN_NAMES = """
len range enumerate zip min max sum abs sorted reversed int str bool list tuple dict set frozenset isinstance ord repr
any all divmod Exception ValueError TypeError KeyError IndexError LookupError ZeroDivisionError ArithmeticError
OverflowError RuntimeError NotImplementedError AttributeError StopIteration
""".split()

METHODS = """
append clear copy count endswith extend find get index insert isalnum isalpha isdigit islower isspace isupper items
join keys ljust lower lstrip partition pop remove replace reverse rfind rjust rpartition rsplit rstrip setdefault split
splitlines startswith strip update upper values zfill bit_length __init__
""".split()

WORDS = """
type typing typing_extensions enum Enum IntEnum StrEnum Flag IntFlag Generic Protocol ABC ABCMeta namedtuple NamedTuple
TypedDict TYPE_CHECKING abstractmethod
""".split()

NAMES_OUT = """
register mro elements open input version_info with_traceback add_note attrgetter breakpoint builtins compile copyright
credits delattr dir eval exec exit gc getattr globals hasattr help id importlib license locals methodcaller os quit
setattr super type vars sys __name__ chr print
""".split()


def files():
    return sorted(FOLDER.glob("**/*.py"))


def trees():
    return [(path.name, ast.parse(path.read_text())) for path in files()]


def nodes():
    return [(name, node) for name, tree in trees() for node in ast.walk(tree)]


def bound_names(node):
    if isinstance(node, (ast.FunctionDef, ast.ClassDef)):
        return [node.name]
    if isinstance(node, ast.arg):
        return [node.arg]
    if isinstance(node, (ast.Name, ast.Attribute)) and isinstance(node.ctx, ast.Store):
        return [node.id if isinstance(node, ast.Name) else node.attr]
    return []


class LanguageTest(unittest.TestCase):
    def test_nothing_else_lies_in_the_folder(self):
        for path in FOLDER.iterdir():
            if path.name != "__pycache__":
                self.assertRegex(path.name, r"^([a-z][a-z0-9_]*|__init__|__main__)\.py$")
                self.assertNotIn(path.stem, dir(builtins))

    def test_signs_and_sizes(self):
        for path in files():
            text = path.read_bytes().decode("ascii")
            self.assertRegex(text, r"^[ -~\n]*$", path.name)
            lines = text.split("\n")
            self.assertLessEqual(len(lines), 400, path.name)
            self.assertLessEqual(max(len(line) for line in lines), 120, path.name)

    def test_words_that_stand_nowhere(self):
        for path in files():
            text = path.read_text()
            for word in re.findall(r"\w+", text):
                self.assertNotIn(word, WORDS, path.name)
            self.assertNotRegex(text, "dataclass|overload|contextmanager", path.name)

    def test_functions(self):
        for name, node in nodes():
            if isinstance(node, ast.FunctionDef):
                where = f"{name}: {node.name}"
                self.assertLessEqual(node.end_lineno - node.lineno + 1, 40, where)
                self.assertEqual(node.decorator_list, [], where)
                given = node.args
                self.assertFalse(given.vararg or given.kwarg or given.kwonlyargs or given.posonlyargs, where)

    def test_kinds_of_nodes(self):
        for name, node in nodes():
            self.assertIn(node.__class__.__name__, NODES, f"{name}: {getattr(node, 'lineno', 0)}")
            if isinstance(node, ast.Constant):
                self.assertIn(node.value.__class__.__name__, ("int", "str", "bool", "NoneType"), name)
            if isinstance(node, ast.Assign):
                self.assertEqual(len(node.targets), 1, name)
            if isinstance(node, (ast.For, ast.While)):
                self.assertEqual(node.orelse, [], name)

    def test_imports(self):
        for name, tree in trees():
            for node in ast.walk(tree):
                self.assertNotIsInstance(node, ast.Import, name)
                if isinstance(node, ast.ImportFrom):
                    self.assertIn(node, tree.body, name)
                    self.assertEqual(node.level, 0, name)
                    self.assertTrue(node.module.startswith("whokeepsdesk."), name)
                    self.assertNotIn("*", [each.name for each in node.names], name)

    def test_names(self):
        own = [name for each, node in nodes() for name in bound_names(node)]
        for name in own:
            self.assertTrue(name == "__init__" or re.match(r"^[A-Za-z][A-Za-z0-9_]*$", name), name)
            self.assertNotIn(name, dir(builtins))
            self.assertNotIn(name, NAMES_OUT)
        for each, node in nodes():
            if isinstance(node, ast.Name) and node.id in dir(builtins):
                self.assertIn(node.id, OWN_NAMES, each)
            if isinstance(node, ast.Name):
                self.assertNotIn(node.id, NAMES_OUT, each)
            if isinstance(node, ast.Attribute):
                self.assertIn(node.attr, METHODS + own, each)

    def test_no_local_is_called_like_a_class_or_an_import(self):
        for name, tree in trees():
            taken = [node.name for node in tree.body if isinstance(node, (ast.ClassDef, ast.FunctionDef))]
            for node in tree.body:
                if isinstance(node, ast.ImportFrom):
                    taken += [each.name for each in node.names]
            self.assertEqual(len(taken), len(set(taken)), name)
            for node in ast.walk(tree):
                if isinstance(node, (ast.arg, ast.Name)):
                    for bound in bound_names(node):
                        self.assertNotIn(bound, taken, name)

    def test_no_name_is_a_method_and_a_value(self):
        methods = []
        values = []
        for name, node in nodes():
            if isinstance(node, ast.ClassDef):
                own = [each.name for each in node.body if isinstance(each, ast.FunctionDef)]
                self.assertEqual(len(own), len(set(own)), f"{name}: {node.name}")
                methods += own
            if isinstance(node, ast.Attribute) and isinstance(node.ctx, ast.Store):
                values.append(node.attr)
        self.assertEqual(set(methods) & set(values), set())
        self.assertEqual(set(values) & set(METHODS), set())

    def test_no_sets(self):
        for name, node in nodes():
            self.assertNotIsInstance(node, ast.Set, name)
            if isinstance(node, ast.Name):
                self.assertNotIn(node.id, ("set", "frozenset"), name)

    def test_no_two_files_draw_from_one_another(self):
        drawn = {}
        for name, tree in trees():
            froms = [node.module for node in tree.body if isinstance(node, ast.ImportFrom)]
            drawn[name] = [module.split(".")[1] + ".py" for module in froms]
        while drawn:
            free = [name for name in drawn if not any(each in drawn for each in drawn[name])]
            self.assertNotEqual(free, [], f"a ring among {sorted(drawn)}")
            for name in free:
                drawn.pop(name)
