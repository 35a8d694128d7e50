"""The rules of the language (L1 to L28) that can be seen from the written code."""

import ast
import builtins
import pathlib
import re
import unittest

PACKAGE = pathlib.Path(__file__).resolve().parent.parent / "carpetkin"

NODES = set("""
    Module FunctionDef ClassDef Return Assign AugAssign For While If Raise Try ImportFrom Expr Pass Break Continue
    ExceptHandler arguments arg keyword alias BoolOp BinOp UnaryOp Lambda IfExp Dict Set ListComp comprehension Compare
    Call FormattedValue JoinedStr Constant Attribute Subscript Name List Tuple Slice Load Store And Or Not USub Invert
    Add Sub Mult FloorDiv Mod Pow LShift RShift BitOr BitXor BitAnd Eq NotEq Lt LtE Gt GtE Is IsNot In NotIn
""".split())
OWN_NAMES = set("""
    len range enumerate zip min max sum abs sorted reversed int str bool list tuple dict set frozenset isinstance ord
    repr any all divmod Exception ValueError TypeError KeyError IndexError LookupError ZeroDivisionError ArithmeticError
    OverflowError RuntimeError NotImplementedError AttributeError StopIteration
""".split())
OWN_METHODS = set("""
    append clear copy count endswith extend find get index insert isalnum isalpha isdigit islower isspace isupper items
    join keys ljust lower lstrip partition pop remove replace reverse rfind rjust rpartition rsplit rstrip setdefault
    split splitlines startswith strip update upper values zfill bit_length add discard title
""".split())
SPECIAL = ("__init__", "__eq__", "__repr__", "__str__", "__len__")
WORDS = re.compile(
    r"\b(type|typing|typing_extensions|enum|Enum|IntEnum|StrEnum|Flag|IntFlag|Generic|Protocol|ABC|ABCMeta|namedtuple"
    r"|NamedTuple|TypedDict|TYPE_CHECKING|abstractmethod)\b|dataclass|overload|contextmanager"
)
UNUSED = ("register", "mro", "elements", "open", "input", "version_info", "with_traceback", "add_note", "format",
          "format_map")
PYTHONS_OWN = set().union(*[dir(kind) for kind in (str, int, list, dict, tuple, set, bytes)])


def faults_of_text(text):
    found = []
    lines = text.split("\n")
    if len(lines) > 401:
        found.append("L10 the file is too long")
    for k, line in enumerate(lines, start=1):
        if len(line) > 120:
            found.append(f"L10 line {k} is too long")
        if any(not " " <= sign <= "~" for sign in line):
            found.append(f"L14 line {k} has a sign that is not allowed")
        if WORDS.search(line):
            found.append(f"L17 line {k} has a word that is not used")
    return found


def faults_of_name(name):
    if name in dir(builtins):
        return [f"L15 {name} is a name of Python's own"]
    if name in SPECIAL:
        return []
    return [] if re.fullmatch(r"[A-Za-z][A-Za-z0-9_]*", name) and name not in UNUSED else [f"L12 name {name}"]


def faults_of_def(node):
    found = faults_of_name(node.name)
    if node.decorator_list or node.args.vararg or node.args.kwarg or node.args.kwonlyargs or node.args.posonlyargs:
        found.append(f"L4 {node.name}")
    if node.end_lineno - node.lineno + 1 > 40:
        found.append(f"L10 {node.name} is too long")
    return found


def faults_of_attribute(node):
    name = node.attr
    if name == "__init__" or name in OWN_METHODS:
        return []
    return [f"L25 {name}"] if name in PYTHONS_OWN or name in UNUSED or name.startswith("_") else []


def faults_of_constant(node):
    return [] if node.value is None or isinstance(node.value, (bool, int, str)) else ["L7 a value"]


def faults_of_import(node):
    good = node.level == 0 and node.module and node.module.startswith("carpetkin.")
    return [] if good and all(a.name != "*" and a.asname is None for a in node.names) else [f"L2 {node.module}"]


def faults_of_node(node):
    kind = type(node).__name__
    if kind not in NODES:
        return [f"L6, L7 {kind}"]
    if kind == "FunctionDef":
        return faults_of_def(node)
    if kind == "ClassDef":
        good = len(node.bases) <= 1 and not node.decorator_list and not node.keywords
        return faults_of_name(node.name) + ([] if good else [f"L5 {node.name}"])
    if kind == "arg":
        return faults_of_name(node.arg)
    if kind == "Name" and isinstance(node.ctx, ast.Store):
        return faults_of_name(node.id)
    if kind == "Name":
        return [f"L8 {node.id}"] if node.id in dir(builtins) and node.id not in OWN_NAMES else []
    if kind == "Attribute":
        return faults_of_attribute(node)
    if kind == "Constant":
        return faults_of_constant(node)
    if kind == "ImportFrom":
        return faults_of_import(node)
    if kind in ("For", "While"):
        return ["L6 else behind a loop"] if node.orelse else []
    if kind == "Assign":
        return ["L6 several targets"] if len(node.targets) != 1 else []
    if kind == "ListComp":
        return ["L7 a comprehension"] if len(node.generators) != 1 or len(node.generators[0].ifs) > 1 else []
    return []


def faults_of(text):
    found = faults_of_text(text)
    for node in ast.walk(ast.parse(text)):
        for fault in faults_of_node(node):
            found.append(f"{fault}, line {getattr(node, 'lineno', '?')}")
    return found


def modules():
    return sorted(PACKAGE.glob("*.py"))


def drawn_from(path):
    rows = [node for node in ast.parse(path.read_text()).body if isinstance(node, ast.ImportFrom)]
    return [row.module.split(".")[1] for row in rows]


class Language(unittest.TestCase):
    def test_the_package_keeps_to_it(self):
        for path in modules():
            with self.subTest(path.name):
                self.assertEqual(faults_of(path.read_text(encoding="utf-8")), [])

    def test_the_folder_holds_python_files_alone(self):
        for path in PACKAGE.rglob("*"):
            if "__pycache__" not in path.parts:
                self.assertRegex(path.name, r"\A(__init__|__main__|[a-z][a-z0-9_]*)\.py\Z")
        self.assertTrue((PACKAGE / "__init__.py").is_file())

    def test_no_two_files_draw_from_one_another(self):
        draws = {path.stem: drawn_from(path) for path in modules()}
        settled = set()
        while len(settled) < len(draws):
            ready = {name for name, drawn in draws.items() if set(drawn) <= settled} - settled
            self.assertTrue(ready, "files draw from one another in a ring, or from none that is there")
            settled |= ready

    def test_faults_are_seen(self):
        codes = (
            "import os", "from carpetkin.errors import *", "x = 1.5", "x = 3 / 2", "x = {k: k for k in y}",
            "def f(*args):\n    pass", "def f():\n    yield 1", "x = y.encode()", "x = getattr(y, 'z')", "list = 3",
            "a = b = 3", "x = [i for i in y for j in i]", "_x = 1", "with x:\n    pass", "x = y.sort()", "# a type",
            "for i in x:\n    pass\nelse:\n    pass", "x = '\t'", "x = chr(3)", "def f():\n" + "    pass\n" * 40,
        )
        for code in codes:
            with self.subTest(code):
                self.assertNotEqual(faults_of(code), [])


if __name__ == "__main__":
    unittest.main()
