import ast
import os
import re
import unittest

from language import FREE_VALUES, METHODS, TABLES, faults_of, members_of, methods_of_python

HERE = os.path.dirname(os.path.abspath(__file__))
PACKAGE = os.path.join(os.path.dirname(HERE), "knotwise")

WRONG = {
    "L6 or L7": ["def f(x):\n    return x / 2\n", "def f(x):\n    del x\n", "def f(x):\n    return {k: 1 for k in x}\n",
                 "def f(x):\n    yield x\n", "def f(x):\n    return (y := x)\n", "def f(x):\n    return [*x]\n"],
    "L6": ["def f(x):\n    a, b = x\n", "def f(x):\n    for a in x:\n        pass\n    else:\n        pass\n"],
    "L7": ["def f(x):\n    return [a for b in x for a in b]\n", "def f(x):\n    return 1.5\n"],
    "L8": ["def f(x):\n    return hash(x)\n", "def f(x):\n    return chr(x)\n"],
    "L10": ["def f(x):\n" + "    x = 1\n" * 40, "A = " + "1" * 120 + "\n"],
    "L12": ["def _f(x):\n    pass\n"],
    "L13": ["def f(x):\n    return {1, 2, 3}\n"],
    "L14": ["A = 1\t\n"],
    "L15": ["A = [[1]]\n", "A = 1\nA = 2\n", "def f(max):\n    pass\n", "def f(x):\n    next = x\n",
            "def f(x):\n    return LOOP\n", "def f(x):\n    LOOP.update(x)\n", "def f(x):\n    x(LOOP)\n"],
    "L18": ["from knotwise.moves import Move\nA = [Move]\n", "from knotwise.moves import Move\ndef f():\n    return Move\n"],
    "L16": ["from .errors import NoName\n", "from os import path\n"],
    "L17": ["# a type\n", "def f(x):\n    return x.open\n"],
    "L19": ["def f(x):\n    raise ValueError\n", "def f(x):\n    try:\n        x()\n    except TypeError:\n        pass\n"],
    "L20": ["def f(x):\n    return x is f\n"],
    "L21": ["def f(x: int):\n    pass\n", "def f(x) -> int:\n    pass\n"],
    "L22": ["def f(x):\n    return sum(x, key=f)\n", "def f(x):\n    return len\n", "def f(x):\n    x(len)\n"],
    "L23": ["def f(x):\n    y = range(x)\n", "def f(x):\n    return x.items()\n",
            "def f(x):\n    for y in x:\n        x.append(y)\n", "def f(x):\n    for y in x:\n        x[y] = 1\n",
            "def f(x):\n    for y, z in x.items():\n        x.pop(y)\n"],
    "L24": ["def f(x):\n    y = set(x)\n", "def f(x):\n    for y in set(x):\n        pass\n"],
    "L25": ["def f(x):\n    x.sort()\n", "def f(x):\n    return x.encode()\n",
            "def f(x):\n    return x.append\n"],
    "L27": ["A = '%'\n", "def f(x):\n    return 2 ** x\n"],
}


def files():
    return sorted(name for name in os.listdir(PACKAGE) if name != "__pycache__")


def source_of(name):
    with open(os.path.join(PACKAGE, name), encoding="utf-8", newline="") as file:
        return file.read()


def draws_from(name):
    return [node.module.split(".")[1] + ".py" for node in ast.parse(source_of(name)).body
            if isinstance(node, ast.ImportFrom)]


class LanguageTest(unittest.TestCase):
    def test_the_package_keeps_to_it(self):
        for name in files():
            self.assertTrue(re.fullmatch("[a-z0-9_]+[.]py", name), name)
            self.assertEqual(faults_of(source_of(name)), [], name)

    def test_no_two_files_draw_from_one_another(self):
        settled = []
        while len(settled) < len(files()):
            ready = [name for name in files() if name not in settled and set(draws_from(name)) <= set(settled)]
            self.assertTrue(ready, sorted(set(files()) - set(settled)))
            settled.extend(ready)

    def test_names_come_from_the_file_that_defines_them(self):
        for name in files():
            for node in ast.parse(source_of(name)).body:
                if isinstance(node, ast.ImportFrom):
                    source = source_of(node.module.split(".")[1] + ".py")
                    for alias in node.names:
                        self.assertRegex(source, f"(?m)^((def|class) {alias.name}\\b|{alias.name} =)")

    def test_no_name_is_a_method_and_a_value(self):
        methods, values = set(), set()
        for name in files():
            found = members_of(source_of(name))
            methods.update(found[0])
            values.update(found[1])
        self.assertEqual(methods & values, set())
        self.assertTrue(methods >= {"told", "done", "back", "renamed", "marks"} and values >= {"word", "name", "turned"})

    def test_members_are_not_called_like_python_s_own(self):
        for name in files():
            methods, values = members_of(source_of(name))
            self.assertEqual(methods & methods_of_python() - set(METHODS) - {"add", "discard"}, set())
            self.assertEqual(values & methods_of_python() - set(FREE_VALUES), set())
            self.assertEqual(values & {"args", "format"}, set())

    def test_all_tables_are_known(self):
        found = []
        for name in files():
            for node in ast.parse(source_of(name)).body:
                if isinstance(node, ast.Assign) and isinstance(node.value, (ast.List, ast.Dict)):
                    found.append(node.targets[0].id)
        self.assertEqual(sorted(found), sorted(TABLES))

    def test_wrong_forms_are_seen(self):
        for rule, sources in WRONG.items():
            for source in sources:
                self.assertIn(rule, [fault[0] for fault in faults_of(source)], source)


if __name__ == "__main__":
    unittest.main()
