"""The package's files, held against those rules of LANGUAGE.md that a walk over the code can see."""

import ast
import builtins
import pathlib
import re
import unittest

PACKAGE = pathlib.Path(__file__).resolve().parent.parent / "formattexts"

ALLOWED_NODES = set("""
Module Import ImportFrom alias FunctionDef ClassDef arguments arg Assign AugAssign If While For Return Break Continue
Pass Raise Try ExceptHandler Expr Name Constant List Tuple Dict Set BinOp BoolOp UnaryOp Compare IfExp Call Attribute
Subscript Slice ListComp comprehension JoinedStr FormattedValue Lambda keyword Load Store
Add Sub Mult FloorDiv Mod Pow LShift RShift BitOr BitXor BitAnd Invert Not USub UAdd And Or
Eq NotEq Lt LtE Gt GtE Is IsNot In NotIn
""".split())

PYTHONS_OWN = set("""
len range enumerate zip min max sum abs sorted reversed int str bool list tuple dict set frozenset isinstance ord repr
any all divmod Exception ValueError TypeError KeyError IndexError LookupError ZeroDivisionError ArithmeticError
OverflowError RuntimeError NotImplementedError AttributeError StopIteration
""".split())

METHODS = set("""
append clear copy count endswith extend find get index insert isalnum isalpha isdigit islower isspace isupper items
join keys ljust lower lstrip partition pop remove replace reverse rfind rjust rpartition rsplit rstrip setdefault split
splitlines startswith strip update upper values zfill bit_length
""".split())

WORDS_OUT = set("""
type typing typing_extensions enum Enum IntEnum StrEnum Flag IntFlag Generic Protocol ABC ABCMeta namedtuple
NamedTuple TypedDict TYPE_CHECKING abstractmethod
""".split())

NAMES_OUT = set("""
register mro elements open input version_info with_traceback add_note attrgetter breakpoint builtins compile copyright
credits delattr dir eval exec exit gc getattr globals hasattr help id importlib license locals methodcaller os quit
setattr super vars sys format format_map
""".split())

VALUES_OUT = set("""
items keys values pop update append clear extend insert remove reverse setdefault sort args encode format
""".split())

OWN_VALUES = set(dir("") + dir(0) + dir([]) + dir({}) + dir(set()) + dir(b""))
MAY_BE_VALUES = set("count index title find get join lower upper split strip copy add".split())


def files():
    return sorted(PACKAGE.glob("*.py"))


def trees():
    return [(path.name, ast.parse(path.read_text())) for path in files()]


def nodes(*kinds):
    return [(name, node) for name, tree in trees() for node in ast.walk(tree) if isinstance(node, kinds)]


def is_plain(node):
    if isinstance(node, (ast.Tuple, ast.List)):
        return all(is_plain(inner) for inner in node.elts)
    if isinstance(node, ast.Dict):
        return all(is_plain(inner) for inner in node.keys + node.values)
    return isinstance(node, ast.Constant)


class Files(unittest.TestCase):
    def test_names_and_signs(self):
        for path in PACKAGE.iterdir():
            if path.name != "__pycache__":
                self.assertRegex(path.name, r"^[a-z_0-9]+\.py$")
                self.assertNotIn(path.stem, set(dir(builtins)) | WORDS_OUT | {"test", "tests", "site", "conftest"})
        for path in files():
            self.assertRegex(path.read_bytes().decode("ascii"), r"^[\n -~]*$")

    def test_sizes(self):
        for path in files():
            rows = path.read_text().split("\n")
            self.assertLessEqual(len(rows), 399, path)
            self.assertLessEqual(max(len(row) for row in rows), 120, path)
        for name, node in nodes(ast.FunctionDef):
            self.assertLessEqual(node.end_lineno - node.lineno + 1, 40, (name, node.name))

    def test_words_that_stand_nowhere(self):
        for path in files():
            text = path.read_text()
            self.assertFalse(set(re.findall(r"\w+", text)) & WORDS_OUT, path)
            for word in ("dataclass", "overload", "contextmanager"):
                self.assertNotIn(word, text)

    def test_top_of_a_module(self):
        for name, tree in trees():
            self.assertIsNotNone(ast.get_docstring(tree), name)
            bound = []
            for node in tree.body[1:]:
                self.assertIsInstance(node, (ast.ImportFrom, ast.FunctionDef, ast.ClassDef, ast.Assign), name)
                if isinstance(node, ast.ImportFrom):
                    bound += [alias.name for alias in node.names]
                elif isinstance(node, ast.Assign):
                    self.assertTrue(is_plain(node.value), (name, node.lineno))
                    bound.append(node.targets[0].id)
                else:
                    bound.append(node.name)
            self.assertEqual(len(bound), len(set(bound)), name)

    def test_imports(self):
        modules = {path.stem: tree for path, tree in zip(files(), [tree for name, tree in trees()])}
        drawn = {}
        for stem, tree in modules.items():
            drawn[stem] = set()
            for node in ast.walk(tree):
                self.assertNotIsInstance(node, ast.Import, stem)
                if isinstance(node, ast.ImportFrom):
                    package, module = node.module.split(".")
                    self.assertEqual((package, node.level), ("formattexts", 0))
                    tops = modules[module].body
                    defined = {top.name for top in tops if isinstance(top, (ast.FunctionDef, ast.ClassDef))}
                    defined |= {top.targets[0].id for top in tops if isinstance(top, ast.Assign)}
                    for alias in node.names:
                        self.assertIn(alias.name, defined, stem)
                        self.assertIsNone(alias.asname)
                    drawn[stem].add(module)
        while drawn:
            free = [stem for stem in drawn if not drawn[stem] & set(drawn)]
            self.assertTrue(free, f"these draw from one another: {sorted(drawn)}")
            drawn = {stem: drawn[stem] for stem in drawn if stem not in free}


class Code(unittest.TestCase):
    def test_only_what_the_language_has(self):
        for name, node in nodes(ast.AST):
            self.assertIn(type(node).__name__, ALLOWED_NODES, (name, getattr(node, "lineno", None)))

    def test_functions_are_plain(self):
        for name, node in nodes(ast.FunctionDef, ast.Lambda):
            given = node.args
            self.assertFalse(given.vararg or given.kwarg or given.kwonlyargs or given.posonlyargs, name)
            self.assertFalse(isinstance(node, ast.FunctionDef) and node.decorator_list, name)

    def test_classes_are_plain(self):
        for name, node in nodes(ast.ClassDef):
            self.assertFalse(node.decorator_list or node.keywords or len(node.bases) > 1, node.name)
            for inner in node.body:
                self.assertIsInstance(inner, ast.FunctionDef, node.name)
            names = [inner.name for inner in node.body]
            self.assertEqual(len(names), len(set(names)))

    def test_statements(self):
        for name, node in nodes(ast.Assign):
            self.assertEqual(len(node.targets), 1, (name, node.lineno))
        for name, node in nodes(ast.For, ast.While):
            self.assertFalse(node.orelse, (name, node.lineno))
        for name, node in nodes(ast.Try):
            self.assertFalse(node.finalbody, (name, node.lineno))
        for name, node in nodes(ast.ListComp):
            self.assertTrue(len(node.generators) == 1 and len(node.generators[0].ifs) <= 1, (name, node.lineno))
        for name, node in nodes(ast.FormattedValue):
            self.assertIsInstance(node.value, ast.Name, (name, node.lineno))
        for name, node in nodes(ast.Constant):
            self.assertNotIsInstance(node.value, (float, bytes, complex), (name, node.lineno))
            self.assertFalse(isinstance(node.value, str) and "%" in node.value, (name, node.lineno))

    def test_names(self):
        own = set(dir(builtins))
        for name, tree in trees():
            tops = {alias.name for node in tree.body if isinstance(node, ast.ImportFrom) for alias in node.names}
            tops |= {node.name for node in tree.body if isinstance(node, ast.ClassDef)}
            for node in ast.walk(tree):
                bound = None
                if isinstance(node, ast.Name):
                    self.assertFalse(node.id in own and node.id not in PYTHONS_OWN, (name, node.id))
                    bound = node.id if isinstance(node.ctx, ast.Store) else None
                elif isinstance(node, ast.arg):
                    bound = node.arg
                elif isinstance(node, ast.ExceptHandler):
                    bound = node.name
                if bound:
                    self.assertNotIn(bound, own | tops | NAMES_OUT, name)
                    self.assertFalse(bound.startswith("_"), (name, bound))

    def test_attributes(self):
        methods = {inner.name for name, node in nodes(ast.ClassDef) for inner in node.body}
        values = {node.attr for name, node in nodes(ast.Attribute) if isinstance(node.ctx, ast.Store)}
        self.assertFalse(methods & values)
        self.assertFalse(values & VALUES_OUT)
        self.assertFalse(values & (OWN_VALUES - MAY_BE_VALUES))
        self.assertFalse((methods - {"__init__"}) & (OWN_VALUES - METHODS))
        for name, node in nodes(ast.Attribute):
            self.assertIn(node.attr, methods | values | METHODS, (name, node.lineno))
            self.assertNotIn(node.attr, NAMES_OUT, (name, node.lineno))

    def test_is_stands_beside_none_true_and_false(self):
        for name, node in nodes(ast.Compare):
            for operator, right in zip(node.ops, node.comparators):
                if isinstance(operator, (ast.Is, ast.IsNot)):
                    self.assertTrue(isinstance(right, ast.Constant) and right.value in (None, True, False))


class Interface(unittest.TestCase):
    def test_answers_is_a_plain_def_of_its_file_alone(self):
        found = [(name, node) for name, tree in trees() for node in tree.body if getattr(node, "name", "") == "answers"]
        self.assertEqual([name for name, node in found], ["scanning.py"])
        self.assertEqual([arg.arg for arg in found[0][1].args.args], ["calls"])
        self.assertFalse(found[0][1].args.defaults)


if __name__ == "__main__":
    unittest.main()
