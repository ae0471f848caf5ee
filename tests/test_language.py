"""The form of the package's files, as LANGUAGE.md tells it."""

import ast
import builtins
import keyword
import pathlib
import re
import unittest

PACKAGE = pathlib.Path(__file__).resolve().parent.parent / "judgedrules"
OWN = set("""len range enumerate zip min max sum abs sorted reversed int str bool list tuple dict set frozenset
isinstance ord repr any all divmod Exception ValueError TypeError KeyError IndexError LookupError ZeroDivisionError
ArithmeticError OverflowError RuntimeError NotImplementedError AttributeError StopIteration""".split())
METHODS = set("""append clear copy count endswith extend find get index insert isalnum isalpha isdigit islower isspace
isupper items join keys ljust lower lstrip partition pop remove replace reverse rfind rjust rpartition rsplit rstrip
setdefault split splitlines startswith strip update upper values zfill bit_length""".split())
NEVER = set("""register mro elements open input version_info with_traceback add_note attrgetter breakpoint builtins
compile copyright credits delattr dir eval exec exit gc getattr globals hasattr help id importlib license locals
methodcaller os quit setattr super type vars sys format format_map""".split())
NOWHERE = re.compile(r"\b(type|typing|typing_extensions|enum|Enum|IntEnum|StrEnum|Flag|IntFlag|Generic|Protocol|ABC|"
                     r"ABCMeta|namedtuple|NamedTuple|TypedDict|TYPE_CHECKING|abstractmethod)\b|"
                     r"dataclass|overload|contextmanager")
NODES = set("""Module Expr Constant ImportFrom alias FunctionDef arguments arg ClassDef Assign AugAssign If While For
Return Break Continue Pass Raise Try ExceptHandler Call keyword Name Attribute Subscript Slice List Tuple Dict ListComp
comprehension BinOp UnaryOp BoolOp Compare IfExp JoinedStr FormattedValue Lambda Load Store Add Sub Mult FloorDiv Mod
Pow BitAnd BitOr BitXor LShift RShift Invert Not USub And Or Eq NotEq Lt LtE Gt GtE Is IsNot In NotIn""".split())
WALKED = {"zip", "enumerate", "reversed", "range"}
TAKES_WALKED = {"list", "tuple", "dict", "sorted", "sum", "any", "all", "enumerate", "zip", "min", "max"}


class File:
    """A file of the package, its tree, and around which node each node stands."""

    def __init__(self, path):
        self.path = path
        self.text = path.read_text("utf-8")
        self.tree = ast.parse(self.text)
        self.around = {}
        for node in ast.walk(self.tree):
            for inner in ast.iter_child_nodes(node):
                self.around[inner] = node

    def nodes(self, *kinds):
        return [node for node in ast.walk(self.tree) if isinstance(node, kinds)]

    def top_names(self, *kinds):
        """The names given a value at the top, if it is of these kinds."""
        return [node.targets[0].id for node in self.tree.body if isinstance(node, ast.Assign)
                and (not kinds or isinstance(node.value, kinds))]

    def bound_at_top(self):
        names = self.top_names()
        for node in self.tree.body:
            if isinstance(node, (ast.FunctionDef, ast.ClassDef)):
                names.append(node.name)
            elif isinstance(node, ast.ImportFrom):
                names.extend(one.name for one in node.names)
        return names


FILES = [File(path) for path in sorted(PACKAGE.glob("*.py"))]


class TestLanguage(unittest.TestCase):
    def each(self, *kinds):
        for file in FILES:
            for node in file.nodes(*kinds):
                yield file, node, f"{file.path.name}:{getattr(node, 'lineno', 0)}"

    def test_files(self):
        found = {path.name for path in PACKAGE.iterdir()} - {"__pycache__"}
        self.assertEqual(found, {file.path.name for file in FILES})
        for file in FILES:
            self.assertRegex(file.path.stem, r"^([a-z][a-z0-9_]*|__init__)$")
            self.assertFalse(file.path.stem in dir(builtins) or keyword.iskeyword(file.path.stem))
            self.assertFalse(file.path.stem.startswith("test"))

    def test_signs_and_sizes(self):
        for file in FILES:
            self.assertRegex(file.text, r"\A[ -~\n]*\Z")
            lines = file.text.split("\n")
            self.assertLess(len(lines), 400)
            self.assertLessEqual(max(map(len, lines)), 120)
            self.assertIsNone(NOWHERE.search(file.text), file.path.name)
        for _, node, where in self.each(ast.FunctionDef):
            self.assertLessEqual(node.end_lineno - node.lineno + 1, 40, where)

    def test_nodes(self):
        for _, node, where in self.each(ast.AST):
            self.assertIn(type(node).__name__, NODES, where)

    def test_statements(self):
        for _, node, where in self.each(ast.Assign, ast.For, ast.While, ast.Try):
            if isinstance(node, ast.Assign):
                self.assertEqual(len(node.targets), 1, where)
            elif isinstance(node, ast.Try):
                self.assertEqual(node.finalbody, [], where)
                self.assertTrue(all(handler.type is not None for handler in node.handlers), where)
            else:
                self.assertEqual(node.orelse, [], where)
        for _, node, where in self.each(ast.ListComp):
            self.assertEqual(len(node.generators), 1, where)
            self.assertLessEqual(len(node.generators[0].ifs), 1, where)
        for _, node, where in self.each(ast.Compare):
            if any(isinstance(sign, (ast.Is, ast.IsNot)) for sign in node.ops):
                self.assertIn(node.comparators[0].value, (None, True, False), where)

    def test_functions(self):
        for file, node, where in self.each(ast.FunctionDef):
            self.assertEqual(node.decorator_list, [], where)
            self.assertFalse(node.args.vararg or node.args.kwarg or node.args.kwonlyargs or node.args.posonlyargs)
            self.assertFalse(node.returns or any(one.annotation for one in node.args.args), where)
            if node.name.startswith("__"):
                self.assertEqual(node.name, "__init__", where)
        for file, node, where in self.each(ast.ClassDef):
            self.assertIn(node, file.tree.body, where)
            self.assertEqual(node.decorator_list, [], where)
            members = node.body[1:] if isinstance(node.body[0], ast.Expr) else node.body
            self.assertTrue(all(isinstance(one, ast.FunctionDef) for one in members), where)
            names = [one.name for one in members]
            self.assertEqual(len(names), len(set(names)), where)

    def test_the_interface_stands_in_one_file(self):
        named = {"check", "told", "kind", "agree", "fits"}
        found = []
        for file in FILES:
            for node in file.tree.body:
                if isinstance(node, (ast.FunctionDef, ast.ClassDef)) and node.name in named:
                    found.append((file.path.stem, node.name, [one.arg for one in node.args.args], node.args.defaults))
        self.assertEqual(found, [("desk", "check", ["p"], []), ("desk", "told", ["p"], []),
                                 ("desk", "kind", ["n", "p"], []), ("desk", "agree", ["a", "b"], []),
                                 ("desk", "fits", ["p", "k", "v"], [])])

    def test_constants(self):
        for _, node, where in self.each(ast.Constant):
            self.assertIsInstance(node.value, (int, str, bool, type(None)), where)
            if isinstance(node.value, str):
                self.assertNotIn("%", node.value, where)

    def test_the_top(self):
        plain = (ast.Constant, ast.Tuple, ast.List, ast.Dict, ast.Name, ast.Load)
        for file in FILES:
            functions = [node.name for node in file.tree.body if isinstance(node, ast.FunctionDef)]
            self.assertEqual(len(file.bound_at_top()), len(set(file.bound_at_top())), file.path.name)
            for node in file.tree.body:
                if isinstance(node, ast.Assign):
                    for part in ast.walk(node.value):
                        self.assertIsInstance(part, plain, file.path.name)
                        if isinstance(part, ast.Name):
                            self.assertIn(part.id, functions)
                        if part is not node.value:
                            self.assertNotIsInstance(part, (ast.List, ast.Dict))
                elif isinstance(node, ast.Expr):
                    self.assertIsInstance(node.value.value, str)
                else:
                    self.assertIsInstance(node, (ast.ImportFrom, ast.FunctionDef, ast.ClassDef))

    def test_imports(self):
        drawn = {file.path.stem: set() for file in FILES}
        tops = {file.path.stem: file for file in FILES}
        for file, node, where in self.each(ast.ImportFrom):
            self.assertIn(node, file.tree.body, where)
            self.assertEqual(node.level, 0, where)
            package, _, name = node.module.partition(".")
            self.assertEqual(package, "judgedrules", where)
            drawn[file.path.stem].add(name)
            own = [one.name for one in tops[name].tree.body if isinstance(one, (ast.FunctionDef, ast.ClassDef))]
            for one in node.names:
                self.assertIsNone(one.asname, where)
                self.assertIn(one.name, own + tops[name].top_names(), where)
                self.assertRegex(file.text.split("\n", node.end_lineno)[-1], rf"\b{one.name}\b", where)
        while drawn:
            free = [name for name in drawn if not drawn[name] & set(drawn)]
            self.assertTrue(free, f"drawn in a ring: {sorted(drawn)}")
            for name in free:
                del drawn[name]

    def test_names(self):
        methods = {node.name for _, node, _ in self.each(ast.FunctionDef)}
        given = set()
        for file, node, where in self.each(ast.Name, ast.Attribute, ast.arg):
            name = node.id if isinstance(node, ast.Name) else node.attr if isinstance(node, ast.Attribute) else node.arg
            if name != "__init__":
                self.assertRegex(name, r"^[A-Za-z][A-Za-z0-9_]*$", where)
            self.assertNotIn(name, NEVER, where)
            if isinstance(node, ast.Name) and isinstance(node.ctx, ast.Load) and name in dir(builtins):
                self.assertIn(name, OWN, where)
            if isinstance(node, ast.arg) or isinstance(node, ast.Name) and isinstance(node.ctx, ast.Store):
                self.assertNotIn(name, dir(builtins), where)
                if file.around[node] not in file.tree.body or isinstance(node, ast.arg):
                    self.assertNotIn(name, file.bound_at_top(), where)
            if isinstance(node, ast.Attribute) and isinstance(node.ctx, ast.Store):
                given.add(name)
                self.assertIsInstance(node.value, ast.Name, where)
        classed = {one.name for _, node, _ in self.each(ast.ClassDef) for one in node.body
                   if isinstance(one, ast.FunctionDef)}
        self.assertEqual(given & classed, set())
        taken = {name for kind in (str, int, list, tuple, dict, set, bytes) for name in dir(kind)} - {"__init__"}
        self.assertEqual((given | classed) & taken, set())
        for _, node, where in self.each(ast.Call):
            if isinstance(node.func, ast.Attribute):
                self.assertIn(node.func.attr, METHODS | methods, where)
            self.assertEqual([one.arg for one in node.keywords], [], where)

    def test_what_the_top_keeps_is_only_read(self):
        kept = {}
        for file in FILES:
            for name in file.top_names(ast.Tuple, ast.List, ast.Dict):
                kept[name] = True
        for file, node, where in self.each(ast.Name):
            if node.id not in kept or not isinstance(node.ctx, ast.Load):
                continue
            outer = file.around[node]
            read = isinstance(outer, (ast.Subscript, ast.For, ast.comprehension))
            read = read or isinstance(outer, ast.Compare) and isinstance(outer.ops[0], (ast.In, ast.NotIn))
            read = read or isinstance(outer, ast.Attribute) and outer.attr == "get"
            read = read or isinstance(outer, ast.Call) and isinstance(outer.func, ast.Name) and outer.func.id == "len"
            self.assertTrue(read, where)

    def test_walked_at_once(self):
        for file, node, where in self.each(ast.Call):
            outer = file.around[node]
            if isinstance(node.func, ast.Name) and node.func.id in WALKED or \
                    isinstance(node.func, ast.Attribute) and node.func.attr in ("items", "keys", "values"):
                walked = isinstance(outer, (ast.For, ast.comprehension))
                walked = walked or isinstance(outer, ast.Call) and isinstance(outer.func, ast.Name) \
                    and outer.func.id in TAKES_WALKED
                self.assertTrue(walked, where)
            if isinstance(node.func, ast.Name) and node.func.id == "set":
                beside = isinstance(outer, ast.Compare)
                beside = beside or isinstance(outer, ast.Call) and outer.func.id in ("len", "sorted")
                self.assertTrue(beside, where)

    def test_errors(self):
        own = {node.name for _, node, _ in self.each(ast.ClassDef)}
        for _, node, where in self.each(ast.ExceptHandler):
            self.assertIn(node.type.id, own | {"KeyError", "ZeroDivisionError", "StopIteration"}, where)
        for _, node, where in self.each(ast.Raise):
            self.assertIsInstance(node.exc, ast.Call, where)


if __name__ == "__main__":
    unittest.main()
