"""LANGUAGE.md, and point 1: the package needs nothing from outside and keeps to the rules."""

import pathlib
import re
import subprocess
import sys
import unittest

import language

ROOT = pathlib.Path(__file__).resolve().parent.parent
FOLDER = ROOT / language.PACKAGE
MODULES = ["clues", "conflicts", "errors", "evidence", "finding", "listing", "rules", "saying", "schemas", "sorter",
           "texts"]

# A class with an order, some of whose methods each text below spoils.
BOX = ("class Box:\n    def __init__(self, rows):\n        self.rows = rows\n\n"
       "    def __le__(self, other):\n        return helper(self.rows)\n\n\n")

# For each rule some files that break it.
BROKEN = {
    "L2": ["import random", "import time\n", "from os import path", "from . import b", "from .b import f",
           "from sortclues.b import *", "from sortclues.b import f as g", "from sortclues.c import f",
           "from sortclues.b import g", "from sortclues import b"],
    "L3": ["if True:\n    X = 1\n", "print(1)", "X: int = 1", "for k in (1, 2):\n    pass\n", "X = [1]\nX.append(2)\n",
           "async def f():\n    return 1\n"],
    "L4": ["@f\ndef f(x):\n    return x\n", "def f(*xs):\n    return xs\n",
           "class A:\n    def f(x):\n        return x\n",
           "def f(x=[]):\n    return x\n", "def f(x=len('')):\n    return x\n"],
    "L5": ["class A:\n    def __hash__(self):\n        return 1\n", "class A(metaclass=1):\n    pass\n",
           "class A:\n    def __le__(self, x):\n        return x\n",
           "class A:\n    def __len__(self, *x):\n        return x\n",
           "class A:\n    def __getitem__(self, at):\n        return at\n",
           "class A:\n    def __iter__(self):\n        return self.rows\n",
           "class A:\n    @staticmethod\n    def f(self):\n        return self\n",
           "class A:\n    @property\n    def f(self, x):\n        return x\n",
           "class A:\n    @property\n    def f(self):\n        self.n = 1\n        return 1\n",
           "class A:\n    def __neg__(self):\n        self.rows.append(1)\n        return self\n",
           BOX + "def helper(xs):\n    xs[0] = 1\n    return xs\n", BOX + "def helper(xs):\n    xs.append(1)\n",
           BOX + "def helper(xs):\n    k = 0\n    k += len(xs)\n", BOX + "def helper(xs):\n    ys = xs\n    ys.pop()\n",
           BOX + "def helper(xs):\n    for x in xs:\n        x.clear()\n", BOX + "def helper(f):\n    return f(1)\n",
           BOX + "def helper(xs):\n    return inner(xs)\n\n\ndef inner(x):\n    x.n = 1\n",
           BOX + "def f(xs):\n    return sorted(xs)\n", BOX + "def f(xs):\n    return max([x for x in xs])\n",
           BOX + "def f(xs):\n    return sorted([int(x) for x in xs], key=len)\n"],
    "L6": ["def f():\n    global x\n    x = 1\n", "def f():\n    import os\n", "def f(x):\n    del x\n"],
    "L7": ["def f():\n    return 1.5\n", "def f(x):\n    return x / 2\n", "def f(x):\n    return {*x}\n",
           "def f(xs):\n    return f(*xs)\n", "def f():\n    return 1j\n", "def f(x):\n    return x @ x\n"],
    "L8": ["def f(x):\n    return hash(x)\n", "def f(x):\n    print(x)\n", "def f(x):\n    return float(x)\n",
           "def f(x):\n    return unheard(x)\n", "def f(x):\n    return open(x)\n", "def f(x):\n    return id(x)\n"],
    "L10": ["X = 1  " + "#" * 120, "def f():\n" + "    pass\n" * 40, "X = 1\n" + "\n" * 400],
    "L12": ["def __f(x):\n    return x\n", "def f(__x):\n    return __x\n"],
    "L14": ["X = '\u00e9'", "X = 1\t", "X = 1\r\n"],
    "L15": ["def list(x):\n    return x\n", "def f(min):\n    return min\n", "X = 1\nX = 2\n",
            "def f():\n    map = 1\n", "from sortclues.b import f\n\n\ndef g(f):\n    return f\n"],
    "L17": ["def f(x):\n    return type(x)\n", "def f(law):\n    return law\n", "def f(x):\n    return x.mro\n",
            "X = 1  # a dataclass\n", "def f(x):\n    sys = x\n    return sys\n"],
    "L18": ["class A:\n    def f(self):\n        self.f = 1\n"],
    "L19": ["class E(ValueError):\n    pass\n\n\ndef f():\n    raise E\n", "def f(e):\n    raise e\n"],
    "L20": ["def f(x, y):\n    return x is y\n", "def f(x):\n    return x is not x.y\n"],
    "L21": ["def f(x: int):\n    return x\n", "def f(x) -> int:\n    return x\n", "def f():\n    x: int = 1\n"],
    "L23": ["def f(xs):\n    return zip(xs, xs)\n", "def f(xs):\n    ys = reversed(xs)\n    return list(ys)\n",
            "def f(x):\n    y = yield x\n", "def f(x):\n    yield x\n    return x\n", "def find(x):\n    yield x\n",
            "def g(x):\n    yield x\n\n\ndef f(x):\n    return g(x)\n",
            "def g(x):\n    yield x\n\n\ndef f(x):\n    y = g(x)\n    return y\n",
            "def g(x):\n    yield x\n\n\ndef f(x):\n    return [g]\n",
            "def g(x):\n    yield x\n\n\ndef f(x):\n    return x in g(x)\n"],
    "L24": ["def f(xs):\n    return set(xs)\n", "def f(xs):\n    return [x for x in {x for x in xs}]\n",
            "def f(xs):\n    s = set(xs)\n    return s\n", "def f(xs):\n    for x in set(xs):\n        pass\n",
            "def f(xs):\n    s = set(xs)\n    s = set()\n    return 1 in s\n", "def f(xs):\n    xs.add(1)\n"],
    "L25": ["def f(x):\n    return x.popitem()\n", "def f(x):\n    return x.to_bytes(2, 'big')\n",
            "def f(x):\n    x.sort(key=1)\n", "def f(x):\n    return x.split(sep='a')\n",
           "class A:\n    def find(self, x):\n        return self.find(x=x)\n"],
    "L27": ["def f(x):\n    return 10 ** x\n", "def f():\n    return 10 ** 65\n",
            "def f(x):\n    return '" + chr(37) + "d'\n", "X = '\\x41'", "X = '\\\\\\r'"],
    "L28": ["class A:\n    def __len__(self):\n        return self.n\n",
            "class A:\n    def __eq__(self, other):\n        x = 1\n        return x == other\n"],
}


def broken_package(text):
    """A package with one file that holds the text, and one that it may read."""
    return {"__init__.py": "\n", "b.py": "def f(x):\n    return x\n", "a.py": text if text[-1] == "\n" else text + "\n"}


class ThePackage(unittest.TestCase):
    def test_the_folder_holds_python_files_only(self):
        names = [path.name for path in FOLDER.iterdir() if path.name != "__pycache__"]
        self.assertEqual([name for name in names if not name.endswith(".py")], [])
        self.assertTrue({"__init__.py"} | {f"{name}.py" for name in MODULES} <= set(names))

    def test_the_rules_of_the_language(self):
        sources = {path.name: path.read_bytes().decode("utf-8") for path in FOLDER.glob("*.py")}
        self.assertEqual(language.faults(sources), [])

    def test_python_has_no_warning(self):
        for path in sorted(FOLDER.glob("*.py")):
            command = [sys.executable, "-W", "error", "-c", "import sys; compile(sys.stdin.read(), 'x', 'exec')"]
            done = subprocess.run(command, input=path.read_text(), text=True, capture_output=True, check=False)
            self.assertEqual((done.returncode, done.stderr), (0, ""), path.name)

    def test_it_imports_nothing_from_outside(self):
        names = [f"sortclues.{name}" for name in MODULES]
        code = (f"import sys; before = set(sys.modules); import {', '.join(names)}; "
                "print(sorted(set(sys.modules) - before))")
        done = subprocess.run([sys.executable, "-S", "-c", code], cwd=ROOT, text=True, capture_output=True, check=True)
        self.assertEqual(done.stdout, f"{['sortclues'] + sorted(names)}\n")


class TheCheck(unittest.TestCase):
    def test_it_sees_each_of_these(self):
        for rule, texts in BROKEN.items():
            for text in texts:
                found = language.faults(broken_package(text))
                named = [fault for fault in found if rule in re.findall(r"\bL[0-9]+\b", fault)]
                self.assertNotEqual(named, [], f"{rule}: {text}: {found}")

    def test_it_sees_a_circle_and_a_name_at_second_hand(self):
        circle = {"a.py": "from sortclues.b import Y\n\nX = 1\n", "b.py": "from sortclues.a import X\n\nY = 1\n"}
        self.assertEqual(language.faults(circle), ["a.py: L16: a circle", "b.py: L16: a circle"])
        second = {"a.py": "X = 1\n", "b.py": "from sortclues.a import X\n", "c.py": "from sortclues.b import X\n"}
        self.assertEqual(language.faults(second), ["c.py: L2, L16: line 1"])
        first = {"__init__.py": "from sortclues.a import X\n", "a.py": "X = 1\n"}
        self.assertEqual(language.faults(first), ["__init__.py: L16: an import"])
        self.assertEqual(language.faults({"Big.py": "X = 1\n"}), ["Big.py: L1, L14: the name of the file"])

    def test_it_passes_what_is_right(self):
        right = ("from sortclues.b import f\n\nX = (1, 'a', None)\n\n\ndef g(xs, y=-1):\n    s = set(xs)\n    y += 1\n"
                 "    return [f(x) for x in xs if x in s and x is not None and len({z for z in xs}) > y]\n"
                 "\n\ndef h(xs, *, y=()):\n    for x in xs:\n        yield x | (1 << 2) & 3\n    return\n"
                 "\n\ndef k(xs):\n    for x in h(xs):\n        return x\n"
                 "    return [list(h(xs)), [x for x in h(xs)]]\n")
        self.assertEqual(language.faults(broken_package(right)), [])
        box = BOX + ("def helper(xs):\n    ys = list(xs)\n    parts = {}\n    ys[0] = 1\n    k = 0\n    k += 1\n"
                     "    for x in ys:\n        parts.setdefault(x, []).append(k)\n    ys.append(10 ** 64)\n"
                     "    return sorted([int(y) for y in ys]) == parts\n\n\nclass Other:\n    @property\n"
                     "    def rows(self):\n        return [1]\n\n    def __iand__(self, other):\n"
                     "        self.n = other\n        return self\n\n"
                     "    def __getitem__(self, at):\n        return self.n\n\n"
                     "    def __iter__(self):\n        raise TypeError('no')\n\n    def put(self, *rows):\n"
                     "        self.put(rows)\n")
        self.assertEqual(language.faults(broken_package(box)), [])


if __name__ == "__main__":
    unittest.main()
