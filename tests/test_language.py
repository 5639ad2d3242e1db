"""That the package keeps to ../shared/LANGUAGE.md, as far as rules.py can see it."""

import os
import unittest

import everytick
from tests.rules import faults_of

FOLDER = os.path.dirname(os.path.abspath(everytick.__file__))


def files_of_the_package():
    files = {}
    for name in os.listdir(FOLDER):
        if name.endswith(".py"):
            with open(os.path.join(FOLDER, name), encoding="utf-8", newline="") as file:
                files[name] = file.read()
    return files


class PackageTest(unittest.TestCase):
    def test_the_folder_has_nothing_but_plain_files(self):
        for name in os.listdir(FOLDER):
            if name != "__pycache__":
                self.assertRegex(name, r"^[a-z0-9_]+\.py$")
                self.assertTrue(os.path.isfile(os.path.join(FOLDER, name)))
        self.assertIn("__init__.py", os.listdir(FOLDER))
        self.assertLessEqual(len(os.listdir(FOLDER)), 100)

    def test_the_rules(self):
        self.assertEqual(faults_of(files_of_the_package()), [])

    def test_all_files_are_looked_at(self):
        self.assertGreaterEqual(len(files_of_the_package()), 10)


class RulesTest(unittest.TestCase):
    """That rules.py sees what breaks a rule."""

    def rules(self, text, **others):
        files = {"a.py": text, "__init__.py": "", "b.py": "def told(x):\n    return x\n"}
        files.update({name + ".py": other for name, other in others.items()})
        return {fault.split(" ")[0] for fault in faults_of(files)}

    def body(self, *lines):
        return self.rules("\n".join(["def f(xs, k):"] + ["    " + line for line in lines] + ["    return xs, k", ""]))

    def test_good_code(self):
        good = ('"""Doc."""\n\nfrom everytick.b import told\n\nTABLE = {"a": 1, "b": (2, -3)}\n\n\nclass Box(ValueError):\n'
                '    """Doc."""\n\n    def __init__(self, n):\n        super().__init__(f"box {n}")\n        self.n = n\n\n\n'
                'def f(xs, k=2):\n    found = [told(x) for x in xs if x is not None]\n    for n, (x, _) in enumerate(xs):\n'
                '        found.append((n, x))\n    seen = set()\n    seen.add(k)\n    try:\n        found.pop()\n'
                '    except Box:\n        raise Box(3)\n    return sorted({x for x, _ in found}), len(set(xs)), TABLE["a"]\n')
        self.assertEqual(self.rules(good), set())

    def test_l2(self):
        for text in ("import os\n", "import everytick.b\n", "from .b import told\n", "from everytick.b import *\n",
                     "from everytick.c import x\n", "from math import pi\n", "from sys import argv\n", "from everytick import b\n",
                     "X = 1\nfrom everytick.b import told\n", "def f():\n    import os\n    return os\n"):
            self.assertIn("L2", self.rules(text), text)
        self.assertEqual(self.rules("from math import gcd\n"), set())

    def test_l3(self):
        for text in ("X = []\nX.append(1)\n", "for k in (1, 2):\n    pass\n", "X = len((1, 2))\n", "X, Y = 1, 2\n",
                     "if True:\n    X = 1\n", "X = [[1]]\n", "X = {1: {}}\n", "X = Y = 1\n"):
            self.assertIn("L3", self.rules(text), text)

    def test_l4_l5(self):
        self.assertIn("L4", self.rules("from everytick.b import told\n\n\n@told\ndef f():\n    return 1\n"))
        self.assertIn("L4", self.rules("def f(xs=[]):\n    return xs\n"))
        self.assertIn("L5", self.rules("class A:\n    def __hash__(self):\n        return 1\n"))

    def test_l6_l7(self):
        self.assertIn("L6", self.body("global xs"))
        self.assertIn("L6", self.rules("async def f():\n    return 1\n"))
        for line in ("k = 1.5", "k = k / 2", "k /= 2", "k = (x for x in xs)", "k = [k := 3]"):
            self.assertIn("L7", self.body(line), line)
        self.assertIn("L7", self.rules("X = [x for x in (1, 2)]\n"))

    def test_l8(self):
        for name in ("print", "open", "type", "hash", "filter", "vars", "round", "slice", "eval", "chr", "unknown"):
            self.assertIn("L8", self.body(f"k = {name}(k)"), name)
        self.assertIn("L8", self.body("k = xs.__class__"))
        for name in ("len", "range", "sorted", "isinstance", "divmod"):
            self.assertNotIn("L8", self.body(f"k = {name}(k)"), name)

    def test_l10(self):
        self.assertIn("L10", self.body(*["k = 1"] * 39))
        self.assertNotIn("L10", self.body(*["k = 1"] * 38))
        self.assertIn("L10", self.rules("\n" * 400))
        self.assertNotIn("L10", self.rules("\n" * 399))
        self.assertIn("L10", self.rules("X = " + "1" * 117))
        self.assertNotIn("L10", self.rules("X = " + "1" * 116))
        self.assertIn("L10", self.rules("def f():\n\treturn 1\n"))

    def test_l12_to_l15(self):
        for line in ("_wallet = 1", "k = _", "__x = 1", "_pe_x = 1"):
            self.assertIn("L12", self.body("_ = 1", line), line)
        self.assertIn("L13", self.body("k = len({1, 2, 3})"))
        self.assertIn("L14", self.rules("X = '\u00e9'\n"))
        self.assertIn("L14", self.rules("X = 1\n", Upper=""))
        for line in ("min = 1", "id = 1", "TimeoutError = 1", "for next in xs:", "map = [1 for vars in xs]"):
            self.assertIn("L15", self.body(line, "    k = 1") if line.endswith(":") else self.body(line), line)
        self.assertIn("L15", self.rules("X = 1\nX = 2\n"))
        self.assertIn("L15", self.rules("from everytick.b import told\n\n\ndef f(told):\n    return told\n"))
        self.assertIn("L15", self.rules("class A:\n    pass\n\n\ndef f():\n    A = 1\n    return A\n"))
        self.assertIn("L15", self.rules("def f(sum):\n    return sum\n"))

    def test_l16_l17(self):
        self.assertIn("L16", self.rules("from everytick.b import untold\n"))
        self.assertIn("L16", self.rules("from everytick.c import told\n", c="from everytick.b import told\n"))
        self.assertIn("L16", self.rules("from everytick.c import y\n\nx = 1\n", c="from everytick.a import x\n\ny = 1\n"))
        for line in ("register = 1", "k = xs.elements", "input = 1", "compile = 1", "law = 1", "type = 1"):
            self.assertIn("L17", self.body(line), line)
        self.assertIn("L17", self.rules("X = 'an enum'\n"))

    def test_l18_to_l22(self):
        self.assertIn("L18", self.rules("class A:\n    def f(self):\n        return 1\n\n    def f(self):\n        return 2\n"))
        self.assertIn("L18", self.rules("class A:\n    def f(self):\n        self.f = 1\n"))
        for lines in (("try:", "    k = 1", "except Exception:", "    k = 2"), ("try:", "    k = 1", "except TypeError:", "    k = 2"),
                      ("try:", "    k = 1", "except:", "    k = 2"), ("raise k",), ("raise ValueError",)):
            self.assertIn("L19", self.body(*lines), lines)
        self.assertIn("L20", self.body("k = xs is k"))
        self.assertIn("L21", self.rules("def f(x: int):\n    return x\n"))
        self.assertIn("L21", self.rules("def f(x) -> int:\n    return x\n"))
        self.assertIn("L22", self.body("k = list(xs, key=k)"))

    def test_l23_to_l28(self):
        for lines in (("return zip(xs, xs)",), ("k = [enumerate(xs)]",), ("for x in xs:", "    xs.append(x)"),
                      ("for n, x in enumerate(xs):", "    xs.pop()")):
            self.assertIn("L23", self.body(*lines), lines)
        for lines in (("for x in {1, k}:", "    k = x"), ("k = [set(xs)]",), ("return {x for x in xs}",)):
            self.assertIn("L24", self.body(*lines), lines)
        for line in ("k = xs.intersection(k)", "k = k.rsplitx()", "k = xs.split(sep=k)"):
            self.assertIn("L25", self.body(line), line)
        self.assertIn("L26", self.body("xs.items = k"))
        for name, rule in (("sort", "L26"), ("encode", "L26"), ("union", "L26"), ("add", "L24"), ("discard", "L24")):
            text = f"class A:\n    def {name}(self):\n        return 1\n"
            self.assertIn(rule, self.rules(text))
        text = "class A:\n    def told(self):\n        return {}\n"
        for value in ("self.told", "[self.told]", "len(self.told)", "sorted([1], key=len, reverse=self.told)"):
            self.assertIn("L25", self.rules(text.format(value)), value)
        for value in ("self.told()", "sorted([self], key=self.told)"):
            self.assertEqual(self.rules(text.format(value)), set(), value)
        for value in ("f(*xs[1:], 1)", "f(*[1], k)", "f(*xs, k + 1)", "f(*xs, f(k))"):
            self.assertIn("L7", self.body(f"k = {value}"), value)
        for value in ("f(*xs, k)", "f(k + 1, *xs)", "f(*k.rows)"):
            self.assertEqual(self.body(f"k = {value}"), set(), value)
        for line in ("k = '5 % 3'", "k = '__odd__'", "k = '\\x41'", "k = 2 ** k", "k = 'a._'"):
            self.assertIn("L27", self.body(line), line)
        self.assertIn("L28", self.rules("class A:\n    def __init__(self):\n        return None\n"))
