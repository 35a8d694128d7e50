"""The rules of the language that look at more than one piece of code: where names, sets and walks stand."""

import ast
import builtins
import re
import unittest

from test_language import OWN_NAMES, modules

WALKED = ("zip", "enumerate", "reversed", "range")
VIEWS = ("items", "keys", "values")
TAKERS = ("list", "tuple", "dict", "sorted", "sum", "any", "all", "enumerate", "zip", "min", "max")
KEYWORDS = {"sorted": ("key", "reverse"), "min": ("key", "default"), "max": ("key", "default"), "sum": ("start",),
            "enumerate": ("start",), "zip": ("strict",)}
KINDS = ("int", "str", "bool", "list", "tuple", "dict")
TAKEN = ("KeyError", "ZeroDivisionError", "StopIteration")
FUNCTIONS = set(OWN_NAMES) - set(name for name in OWN_NAMES if name[0].isupper())


def parents_of(tree):
    found = {}
    for node in ast.walk(tree):
        for child in ast.iter_child_nodes(node):
            found[child] = node
    return found


def is_call_of(node, names):
    return isinstance(node, ast.Call) and isinstance(node.func, ast.Name) and node.func.id in names


def is_written_join(node):
    return (isinstance(node, ast.Call) and isinstance(node.func, ast.Attribute) and node.func.attr == "join"
            and isinstance(node.func.value, ast.Constant))


def is_walk(node):
    view = isinstance(node, ast.Call) and isinstance(node.func, ast.Attribute) and node.func.attr in VIEWS
    return view or is_call_of(node, WALKED)


def is_walked_at_once(node, up):
    if isinstance(up, (ast.For, ast.comprehension)):
        return up.iter is node
    return is_call_of(up, TAKERS) and node in up.args or is_written_join(up)


def is_set(node):
    made = is_call_of(node, ("set", "frozenset")) or isinstance(node, ast.Set)
    return made or isinstance(node, ast.BinOp) and is_set(node.left) and is_set(node.right)


def is_good_set(node, up):
    if isinstance(up, ast.Compare):
        return all(isinstance(op, (ast.In, ast.NotIn, ast.Eq, ast.NotEq)) for op in up.ops)
    return is_call_of(up, ("sorted", "len")) and not up.keywords or is_set(up)


def is_plain_value(node, defined):
    if isinstance(node, (ast.List, ast.Tuple)):
        return all(is_plain_value(part, defined) for part in node.elts)
    if isinstance(node, ast.Dict):
        return all(is_plain_value(part, defined) for part in node.keys + node.values)
    if isinstance(node, ast.UnaryOp):
        return isinstance(node.op, ast.USub) and isinstance(node.operand, ast.Constant)
    return isinstance(node, ast.Constant) or isinstance(node, ast.Name) and node.id in defined


def holds_changeable(node):
    return any(isinstance(part, (ast.List, ast.Dict)) for part in ast.walk(node) if part is not node)


def faults_of_top(tree):
    found = []
    defined = set()
    bound = []
    for k, node in enumerate(tree.body):
        if isinstance(node, ast.Expr):
            if k > 0 or not isinstance(node.value, ast.Constant):
                found.append("L3 something is done")
        elif isinstance(node, ast.ImportFrom):
            bound.extend(alias.name for alias in node.names)
        elif isinstance(node, ast.Assign) and isinstance(node.targets[0], ast.Name):
            bound.append(node.targets[0].id)
            if not is_plain_value(node.value, defined) or holds_changeable(node.value):
                found.append(f"L3, L15 {node.targets[0].id}")
        elif isinstance(node, (ast.FunctionDef, ast.ClassDef)):
            bound.append(node.name)
            defined.add(node.name)
        else:
            found.append("L3 a statement at the top")
    return found + [f"L15 {name} is bound twice" for name in set(bound) if bound.count(name) > 1]


def faults_of_locals(tree):
    taken = set(dir(builtins))
    for node in tree.body:
        if isinstance(node, ast.ClassDef):
            taken.add(node.name)
        if isinstance(node, ast.ImportFrom):
            taken.update(alias.name for alias in node.names)
    found = []
    for node in ast.walk(tree):
        if isinstance(node, ast.FunctionDef):
            names = [arg.arg for arg in node.args.args]
            names += [part.id for part in ast.walk(node) if isinstance(part, ast.Name) and isinstance(part.ctx,
                                                                                                      ast.Store)]
            found += [f"L15 {name} in {node.name}" for name in names if name in taken]
    return found


def changed_names(body):
    found = []
    for statement in body:
        for node in ast.walk(statement):
            if isinstance(node, ast.Subscript) and isinstance(node.ctx, ast.Store):
                found.append(ast.unparse(node.value))
            if isinstance(node, ast.Call) and isinstance(node.func, ast.Attribute) and node.func.attr in (
                    "append", "clear", "extend", "insert", "pop", "remove", "reverse", "setdefault", "update"):
                found.append(ast.unparse(node.func.value))
    return found


def faults_of_loop(node):
    walked = node.iter
    while is_walk(walked):
        walked = walked.func.value if isinstance(walked.func, ast.Attribute) else (walked.args or [ast.Constant(0)])[0]
    return ["L23 a loop changes what it walks"] if ast.unparse(walked) in changed_names(node.body) else []


def faults_of_call(node, ups):
    name = node.func.id if isinstance(node.func, ast.Name) else None
    found = []
    if name in OWN_NAMES and any(keyword.arg not in KEYWORDS.get(name, ()) for keyword in node.keywords):
        found.append(f"L22 a keyword at {name}")
    if is_walk(node) and not is_walked_at_once(node, ups[node]):
        found.append("L23 a walk is kept")
    return found


def faults_of_names(node, ups):
    up = ups.get(node)
    if node.id not in FUNCTIONS or isinstance(up, ast.Call) and up.func is node:
        return []
    if isinstance(up, ast.keyword) and up.arg == "key":
        return []
    around = up if isinstance(up, ast.Call) else ups.get(up)
    return [] if node.id in KINDS and is_call_of(around, ("isinstance",)) else [f"L22 {node.id} is kept"]


def faults_of_text(node):
    found = []
    if isinstance(node.value, str) and "%" in node.value:
        found.append("L27 a percent sign in a text")
    return found


def faults_of_use(node, ups):
    if isinstance(node, ast.Call):
        return faults_of_call(node, ups)
    if isinstance(node, ast.Name):
        return faults_of_names(node, ups)
    if isinstance(node, ast.Constant):
        return faults_of_text(node)
    if isinstance(node, ast.For):
        return faults_of_loop(node)
    if isinstance(node, ast.Compare) and any(isinstance(op, (ast.Is, ast.IsNot)) for op in node.ops):
        sides = [node.left] + node.comparators
        good = any(isinstance(side, ast.Constant) and (side.value is None or side.value is True or side.value is False)
                   for side in sides)
        return [] if good else ["L20 is"]
    if isinstance(node, ast.ExceptHandler):
        own = isinstance(node.type, ast.Name) and (node.type.id in TAKEN or node.type.id not in dir(builtins))
        return [] if own else ["L19 an error of Python's own"]
    if isinstance(node, ast.BinOp) and isinstance(node.op, ast.Pow):
        return [] if isinstance(node.right, ast.Constant) else ["L27 **"]
    if isinstance(node, ast.FormattedValue):
        return [] if isinstance(node.value, ast.Name) and node.format_spec is None else ["L7 an f-string"]
    if isinstance(node, ast.Assign) and isinstance(node.targets[0], ast.Tuple):
        return ["L6 one target"]
    if isinstance(node, ast.FunctionDef) and (node.returns or any(arg.annotation for arg in node.args.args)):
        return ["L21 an annotation"]
    return []


def faults_of(text):
    tree = ast.parse(text)
    ups = parents_of(tree)
    found = faults_of_top(tree) + faults_of_locals(tree)
    for node in ast.walk(tree):
        found.extend(faults_of_use(node, ups))
        if is_set(node) and not is_good_set(node, ups[node]):
            found.append("L24 a set is kept")
    if re.search(r"\\[^nt\\\"']", text):
        found.append("L27 an escape")
    return found


def methods_and_values(tree):
    methods, values = set(), set()
    for node in ast.walk(tree):
        if isinstance(node, ast.ClassDef):
            methods.update(part.name for part in node.body if isinstance(part, ast.FunctionDef))
        if isinstance(node, ast.Attribute) and isinstance(node.ctx, ast.Store):
            values.add(node.attr)
    return methods, values


def all_defined():
    found = {}
    for path in modules():
        tree = ast.parse(path.read_text())
        found[path.stem] = {node.name for node in tree.body if isinstance(node, (ast.FunctionDef, ast.ClassDef))}
        found[path.stem] |= {node.targets[0].id for node in tree.body if isinstance(node, ast.Assign)}
    return found


class Use(unittest.TestCase):
    def test_the_package_keeps_to_it(self):
        for path in modules():
            with self.subTest(path.name):
                self.assertEqual(faults_of(path.read_text(encoding="utf-8")), [])

    def test_no_name_is_a_method_and_a_value(self):
        methods, values = set(), set()
        for path in modules():
            more = methods_and_values(ast.parse(path.read_text()))
            methods |= more[0]
            values |= more[1]
        self.assertEqual(methods & values, set())

    def test_names_are_drawn_from_where_they_are_defined(self):
        defined = all_defined()
        for path in modules():
            for node in ast.parse(path.read_text()).body:
                if isinstance(node, ast.ImportFrom):
                    for alias in node.names:
                        self.assertIn(alias.name, defined[node.module.split(".")[1]], path.name)

    def test_each_import_is_used(self):
        for path in modules():
            text = path.read_text()
            for node in ast.parse(text).body:
                if isinstance(node, ast.ImportFrom):
                    for alias in node.names:
                        self.assertGreater(len(re.findall(rf"\b{alias.name}\b", text)), 1, (path.name, alias.name))

    def test_faults_are_seen(self):
        codes = (
            "X = [[1]]", "X = {'a': []}", "X = f()", "X = 1\nX = 2", "f()", "X = 3 + 4", "if X:\n    pass",
            "from carpetkin.a import b\ndef f(b):\n    pass", "class A:\n    pass\ndef f():\n    A = 3",
            "def f(x):\n    for y in x:\n        x.append(y)",
            "def f(x):\n    for k, y in enumerate(x):\n        x[k] = y",
            "def f(x):\n    y = zip(x, x)", "def f(x):\n    return x.items()", "def f(x):\n    return set(x)",
            "def f(x):\n    for y in set(x):\n        pass", "def f(x):\n    return sorted(set(x), key=len)",
            "def f(x):\n    return x is 3", "def f(x):\n    return x ** x", "X = 'a%b'", "X = '\\x41'",
            "def f(x: int):\n    pass",
            "def f(x):\n    try:\n        x()\n    except ValueError:\n        pass", "def f(x):\n    return f'{x.y}'",
            "def f(x):\n    a, b = x", "def f(x):\n    g = len", "def f(x):\n    return int(x, base=3)",
        )
        for code in codes:
            with self.subTest(code):
                self.assertNotEqual(faults_of(code), [])


if __name__ == "__main__":
    unittest.main()
