import ast
import os
import re
import unittest

import talkmarks
from form import faults_in, methods_and_values

FOLDER = os.path.dirname(os.path.abspath(talkmarks.__file__))

# Each leaves the rule that stands beside it.
WRONG = [
    ("import os\n", "L6"), ("from os import path\n", "L2"), ("from talkmarks.names import *\n", "L2"),
    ("x = 1\nx = 2\n", "L15"), ("f()\n", "L3"), ("def f(*a):\n    return 1\n", "L4"),
    ("@g\ndef f():\n    pass\n", "L4"),
    ("class A:\n    x = 1\n", "L5"), ("class A:\n    def __add__(self, o):\n        return 1\n", "L5"),
    ("def f():\n    assert True\n", "L6"), ("def f(x):\n    a = b = x\n", "L6"), ("def f(x):\n    'doc'\n", "L6"),
    ("def f(x):\n    return x / 2\n", "L7"), ("def f(x):\n    return {y for y in x}\n", "L7"),
    ("def f(x):\n    return any(y for y in x)\n", "L7"), ("X = 1.5\n", "L7"), ("def f(x):\n    return hash(x)\n", "L8"),
    ("def f():\n" + "    pass\n" * 40, "L10"), ("X = '" + "x" * 120 + "'\n", "L10"), ("X = '\u00e9'\n", "L14"),
    ("def f(_x):\n    return 1\n", "L12"), ("def f(id):\n    return 1\n", "L15"), ("# a type\n", "L17"),
    ("def f(x):\n    try:\n        x()\n    except TypeError:\n        pass\n", "L19"),
    ("def f(x, y):\n    return x is y\n", "L20"), ("def f(x: int):\n    return x\n", "L21"),
    ("def f(x):\n    return list(x, key=len)\n", "L22"), ("def f(x):\n    y = zip(x, x)\n    return y\n", "L23"),
    ("class A:\n    def __init__(self):\n        return None\n", "L28"),
    ("def f(x):\n    return sorted(set(x), key=len)\n", "L24"), ("def f(x):\n    y = set(x)\n    return y\n", "L24"),
    ("def f(x):\n    x.sort()\n", "L25"), ("X = '%'\n", "L27"),
]


def files():
    found = []
    for folder, inner, names in os.walk(FOLDER):
        inner[:] = [name for name in inner if name != "__pycache__"]
        found.extend([os.path.relpath(os.path.join(folder, name), FOLDER) for name in names])
    return sorted(found)


def source_of(file):
    with open(os.path.join(FOLDER, file), encoding="utf-8", newline="") as opened:
        return opened.read()


def drawn_from(file):
    return [node for node in ast.parse(source_of(file)).body if isinstance(node, ast.ImportFrom)]


def reach_of(file, graph):
    seen = []
    todo = list(graph[file])
    while todo:
        near = todo.pop()
        if near not in seen:
            seen.append(near)
            todo.extend(graph[near])
    return seen


class FormTest(unittest.TestCase):
    def test_the_package_keeps_to_the_rules(self):
        for file in files():
            with self.subTest(file):
                self.assertEqual(faults_in(source_of(file)), [])

    def test_only_plainly_named_files_lie_in_it(self):
        for file in files():
            self.assertTrue(re.fullmatch(r"[a-z][a-z0-9_]*\.py|__init__\.py|__main__\.py", file), file)
        self.assertIn("__init__.py", files())

    def test_names_are_drawn_from_the_file_that_defines_them(self):
        for file in files():
            for node in drawn_from(file):
                inner = ast.parse(source_of(node.module.split(".")[1] + ".py")).body
                defined = [part.name for part in inner if isinstance(part, (ast.FunctionDef, ast.ClassDef))]
                defined += [part.targets[0].id for part in inner if isinstance(part, ast.Assign)]
                self.assertLessEqual({alias.name for alias in node.names}, set(defined), file)

    def test_no_two_files_draw_from_one_another(self):
        graph = {file: [node.module.split(".")[1] + ".py" for node in drawn_from(file)] for file in files()}
        for file in graph:
            self.assertNotIn(file, reach_of(file, graph))

    def test_no_name_is_a_method_here_and_a_value_there(self):
        found = [methods_and_values(source_of(file)) for file in files()]
        methods = set().union(*[pair[0] for pair in found])
        values = set().union(*[pair[1] for pair in found])
        self.assertLessEqual({"say_row", "together", "hear"}, methods)
        self.assertLessEqual({"house", "hand", "number"}, values)
        self.assertEqual(methods & values, set())

    def test_faults_are_seen(self):
        for source, rule in WRONG:
            with self.subTest(source):
                self.assertIn(rule, [fault[0] for fault in faults_in(source)])


if __name__ == "__main__":
    unittest.main()
