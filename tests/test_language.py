"""Looks through the package for what the rules L1 to L28 leave out, as far as a reader of the code's tree can see it."""

import ast
import builtins
import re
import unittest
from pathlib import Path

PACKAGE = Path(__file__).resolve().parent.parent / "nofall"
NODES = {
    "Module", "FunctionDef", "ClassDef", "Return", "Assign", "AugAssign", "For", "While", "If", "Raise", "Try",
    "ImportFrom", "Expr", "Pass", "Break", "Continue", "BoolOp", "BinOp", "UnaryOp", "Lambda", "IfExp", "Dict", "Set",
    "ListComp", "Compare", "Call", "FormattedValue", "JoinedStr", "Constant", "Attribute", "Subscript", "Name", "List",
    "Tuple", "Slice", "Load", "Store", "And", "Or", "Add", "Sub", "Mult", "Mod", "Pow", "LShift", "RShift", "BitOr",
    "BitXor", "BitAnd", "FloorDiv", "Invert", "Not", "UAdd", "USub", "Eq", "NotEq", "Lt", "LtE", "Gt", "GtE", "Is",
    "IsNot", "In", "NotIn", "comprehension", "ExceptHandler", "arguments", "arg", "keyword", "alias"}
OWN = set("""len range enumerate zip min max sum abs sorted reversed int str bool list tuple dict set frozenset isinstance
    ord repr any all divmod Exception ValueError TypeError KeyError IndexError LookupError ZeroDivisionError
    ArithmeticError OverflowError RuntimeError NotImplementedError AttributeError StopIteration""".split())
METHODS = set("""append clear copy count endswith extend find get index insert isalnum isalpha isdigit islower isspace
    isupper items join keys ljust lower lstrip partition pop remove replace reverse rfind rjust rpartition rsplit rstrip
    setdefault split splitlines startswith strip update upper values zfill bit_length""".split())
OUT_WORDS = set("""type typing typing_extensions enum Enum IntEnum StrEnum Flag IntFlag Generic Protocol ABC ABCMeta
    namedtuple NamedTuple TypedDict TYPE_CHECKING abstractmethod""".split())
OUT_PARTS = ("dataclass", "overload", "contextmanager")
OUT_NAMES = set("""register mro elements open input version_info with_traceback add_note attrgetter breakpoint builtins
    compile copyright credits delattr dir eval exec exit gc getattr globals hasattr help id importlib license locals
    methodcaller os quit setattr super type vars sys""".split())
DOUBLE = {"__init__", "__eq__", "__repr__", "__str__", "__len__"}
KEYWORDS = {"sorted": {"key", "reverse"}, "min": {"key", "default"}, "max": {"key", "default"}, "sum": {"start"},
            "enumerate": {"start"}, "zip": {"strict"}}


def files():
    return sorted(PACKAGE.rglob("*.py"))


def bound_names(tree):
    told = []
    for node in ast.walk(tree):
        if isinstance(node, ast.Name) and isinstance(node.ctx, ast.Store):
            told.append(node.id)
        elif isinstance(node, (ast.FunctionDef, ast.ClassDef)):
            told.append(node.name)
        elif isinstance(node, ast.arg):
            told.append(node.arg)
        elif isinstance(node, ast.alias):
            told.append(node.asname or node.name)
        elif isinstance(node, ast.ExceptHandler) and node.name:
            told.append(node.name)
    return told


def top_names(tree):
    told = []
    for node in tree.body:
        if isinstance(node, (ast.FunctionDef, ast.ClassDef)):
            told.append(node.name)
        elif isinstance(node, ast.Assign):
            told.append(node.targets[0].id)
    return told


def parents_of(tree):
    return {child: node for node in ast.walk(tree) for child in ast.iter_child_nodes(node)}


class LanguageTest(unittest.TestCase):
    def each(self):
        for path in files():
            text = path.read_text(encoding="utf-8")
            yield path, text, ast.parse(text)

    def test_files(self):
        self.assertTrue((PACKAGE / "__init__.py").is_file())
        for path in PACKAGE.rglob("*"):
            if "__pycache__" not in path.parts:
                self.assertTrue(path.is_dir() or path.suffix == ".py", path)
                self.assertRegex(path.stem, r"\A([a-z][a-z0-9_]*|__init__|__main__)\Z")
                self.assertFalse(hasattr(builtins, path.stem) and path.stem != "__init__", path)
                self.assertFalse(re.match(r"tests?$|testing$|test_|site$|conftest$|.*customize$", path.stem), path)

    def test_signs_and_sizes(self):
        for path, text, tree in self.each():
            self.assertRegex(text, r"\A[ -~\n]*\Z", path)
            lines = text.split("\n")
            self.assertLessEqual(len(lines), 401, path)
            for line in lines:
                self.assertLessEqual(len(line), 120, (path, line))
            for node in ast.walk(tree):
                if isinstance(node, ast.FunctionDef):
                    self.assertLessEqual(node.end_lineno - node.lineno, 39, (path, node.name))

    def test_words_that_stand_nowhere(self):
        for path, text, tree in self.each():
            self.assertFalse(OUT_WORDS & set(re.findall(r"\w+", text)), path)
            for part in OUT_PARTS:
                self.assertNotIn(part, text, path)

    def test_nodes(self):
        for path, text, tree in self.each():
            for node in ast.walk(tree):
                where = (path, getattr(node, "lineno", None), ast.dump(node)[:80])
                self.assertIn(type(node).__name__, NODES, where)
                if isinstance(node, ast.Assign):
                    self.assertEqual(len(node.targets), 1, where)
                    self.assertNotIsInstance(node.targets[0], (ast.Tuple, ast.List), where)
                if isinstance(node, (ast.For, ast.While)):
                    self.assertFalse(node.orelse, where)
                if isinstance(node, ast.ListComp):
                    self.assertEqual(len(node.generators), 1, where)
                    self.assertLessEqual(len(node.generators[0].ifs), 1, where)
                if isinstance(node, ast.Constant):
                    self.assertIsInstance(node.value, (int, str, type(None)), where)
                if isinstance(node, ast.Try):
                    self.assertFalse(node.finalbody, where)
                if isinstance(node, ast.FormattedValue):
                    self.assertIsInstance(node.value, ast.Name, where)
                    self.assertIsNone(node.format_spec, where)
                if isinstance(node, ast.Compare) and any(isinstance(op, (ast.Is, ast.IsNot)) for op in node.ops):
                    self.assertIn(getattr(node.comparators[0], "value", 0), (None, True, False), where)
                if isinstance(node, ast.BinOp) and isinstance(node.op, ast.Pow):
                    self.assertIsInstance(node.right, ast.Constant, where)

    def test_defs(self):
        for path, text, tree in self.each():
            for node in ast.walk(tree):
                if isinstance(node, ast.FunctionDef):
                    given = node.args
                    self.assertFalse(node.decorator_list or node.returns, (path, node.name))
                    self.assertFalse(given.vararg or given.kwarg or given.kwonlyargs or given.posonlyargs, node.name)
                    self.assertFalse([arg for arg in given.args if arg.annotation], (path, node.name))
                if isinstance(node, ast.ClassDef):
                    self.assertFalse(node.decorator_list or node.keywords, (path, node.name))
                    self.assertLessEqual(len(node.bases), 1, (path, node.name))
                    for part in node.body:
                        self.assertIsInstance(part, (ast.FunctionDef, ast.Pass, ast.Expr), (path, node.name))

    def test_top_of_a_module(self):
        for path, text, tree in self.each():
            self.assertTrue(ast.get_docstring(tree), path)
            names = []
            for node in tree.body[1:]:
                self.assertIsInstance(node, (ast.ImportFrom, ast.FunctionDef, ast.ClassDef, ast.Assign), path)
                if isinstance(node, ast.ImportFrom):
                    names += [alias.name for alias in node.names]
                elif isinstance(node, ast.Assign):
                    names.append(node.targets[0].id)
                else:
                    names.append(node.name)
            self.assertEqual(len(names), len(set(names)), path)

    def test_names(self):
        for path, text, tree in self.each():
            bound = bound_names(tree)
            methods = {part.name for node in tree.body if isinstance(node, ast.ClassDef) for part in node.body
                       if isinstance(part, ast.FunctionDef)}
            for name in bound:
                self.assertTrue(re.fullmatch("[A-Za-z][A-Za-z0-9_]*", name) or name in DOUBLE, (path, name))
                self.assertNotIn(name, OUT_NAMES, path)
                self.assertTrue(name in methods or not hasattr(builtins, name), (path, name))
            for node in ast.walk(tree):
                if isinstance(node, ast.Name) and isinstance(node.ctx, ast.Load):
                    self.assertTrue(node.id in OWN or node.id in bound, (path, node.id))

    def test_no_local_is_called_like_an_import_or_class(self):
        for path, text, tree in self.each():
            taken = [alias.name for node in tree.body if isinstance(node, ast.ImportFrom) for alias in node.names]
            taken += [node.name for node in tree.body if isinstance(node, ast.ClassDef)]
            for node in tree.body:
                if isinstance(node, (ast.FunctionDef, ast.ClassDef)):
                    inner = bound_names(node)[1:]
                    self.assertFalse(set(inner) & set(taken), (path, node.name))

    def test_imports(self):
        draws = {}
        for path, text, tree in self.each():
            mine = "nofall." + path.stem
            draws[mine] = []
            for node in ast.walk(tree):
                if isinstance(node, ast.ImportFrom):
                    source = PACKAGE / (node.module.partition(".")[2] + ".py")
                    self.assertTrue(node.module.startswith("nofall.") and node.level == 0, path)
                    defined = top_names(ast.parse(source.read_text()))
                    for alias in node.names:
                        self.assertIn(alias.name, defined, path)
                    draws[mine].append(node.module)
        for start in draws:
            near = set(draws[start])
            for step in range(len(draws)):
                near |= {far for name in near for far in draws[name]}
            self.assertNotIn(start, near)

    def test_methods_and_calls(self):
        own = {node.name for path, text, tree in self.each() for node in ast.walk(tree)
               if isinstance(node, ast.FunctionDef)}
        for path, text, tree in self.each():
            for node in ast.walk(tree):
                if isinstance(node, ast.Call):
                    where = (path, node.lineno)
                    name = getattr(node.func, "id", None)
                    for keyword in node.keywords:
                        self.assertTrue(name in own or keyword.arg in KEYWORDS.get(name, ()), where)
                    if isinstance(node.func, ast.Attribute):
                        self.assertTrue(node.func.attr in METHODS | own | DOUBLE, where)
                if isinstance(node, ast.Attribute):
                    self.assertNotIn(node.attr, OUT_NAMES | {"format", "format_map", "sort", "args"}, path)

    def test_sets_are_asked_on_the_spot(self):
        for path, text, tree in self.each():
            parents = parents_of(tree)
            for node in ast.walk(tree):
                self.assertNotIsInstance(node, ast.Set, path)
                if isinstance(node, ast.Name) and node.id in ("set", "frozenset"):
                    around = parents[parents[node]]
                    while isinstance(around, ast.BinOp):
                        around = parents[around]
                    counted = isinstance(around, ast.Call) and getattr(around.func, "id", None) in ("len", "sorted")
                    self.assertTrue(counted or isinstance(around, ast.Compare), (path, node.lineno))

    def test_what_a_file_keeps_holds_no_lists(self):
        for path, text, tree in self.each():
            for node in tree.body:
                if isinstance(node, ast.Assign):
                    inner = [part for part in ast.walk(node.value) if part is not node.value]
                    self.assertFalse([part for part in inner if isinstance(part, (ast.List, ast.Dict, ast.Call))], path)

    def test_no_name_is_a_method_and_a_value(self):
        methods, values = set(), set()
        for path, text, tree in self.each():
            for node in ast.walk(tree):
                if isinstance(node, ast.ClassDef):
                    methods |= {part.name for part in node.body if isinstance(part, ast.FunctionDef)}
                if isinstance(node, ast.Attribute) and isinstance(node.ctx, ast.Store):
                    self.assertIsInstance(node.value, ast.Name, path)
                    self.assertNotIn(node.attr, METHODS, path)
                    values.add(node.attr)
        self.assertFalse(methods & values)
        for name in methods | values:
            own = [kind for kind in (str, int, list, dict, set, bytes, tuple) if hasattr(kind, name)]
            self.assertTrue(name in DOUBLE or not own, name)

    def test_things_walked_on_the_spot(self):
        walkers = ("list", "tuple", "dict", "sorted", "sum", "any", "all", "enumerate", "zip", "min", "max", "len")
        for path, text, tree in self.each():
            parents = parents_of(tree)
            for node in ast.walk(tree):
                if isinstance(node, ast.Call) and getattr(node.func, "id", None) in ("zip", "enumerate", "reversed",
                                                                                  "range"):
                    around = parents[node]
                    walked = isinstance(around, (ast.For, ast.comprehension)) and around.iter is node
                    handed = isinstance(around, ast.Call) and getattr(around.func, "id", None) in walkers
                    self.assertTrue(walked or handed, (path, node.lineno))

    def test_errors_taken(self):
        for path, text, tree in self.each():
            for node in ast.walk(tree):
                if isinstance(node, ast.ExceptHandler):
                    self.assertIsNotNone(node.type, path)
                    self.assertNotIn(getattr(node.type, "id", None), ("Exception", "TypeError"), path)
                if isinstance(node, ast.Raise):
                    self.assertIsInstance(node.exc, ast.Call, path)


if __name__ == "__main__":
    unittest.main()
