"""The script that holds the package against the rules of the language."""

import subprocess
import sys
import tempfile
import unittest
from pathlib import Path

SCRIPT = Path(__file__).parent.parent / "tools" / "check_language.py"

BREACHES = {
    "L1": {"notes.txt": "no module"},
    "L2 import": {"a.py": "import math\n"},
    "L2 other": {"a.py": "from re import compile\n"},
    "L2 late": {"a.py": "ONE = 1\nfrom pack.b import TWO\n", "b.py": "TWO = 2\n"},
    "L2 kept": {"a.py": "from math import gcd\n\n\ndef f(xs):\n    return sorted(xs, key=gcd)\n"},
    "L3": {"a.py": "for x in (1, 2):\n    pass\n"},
    "L4": {"a.py": "class A:\n    @other\n    def f(self):\n        return 1\n"},
    "L5 dunder": {"a.py": "class A:\n    def __hash__(self):\n        return 1\n"},
    "L5 changes": {"a.py": "class A:\n    def __add__(self, other):\n        return f(other)\n\n\n"
                           "def f(xs):\n    xs.append(1)\n    return xs\n"},
    "L5 passed": {"a.py": "class A:\n    def __eq__(self, other):\n        return f(other, other)\n\n\n"
                          "def f(x, do):\n    return do(x)\n"},
    "L5 kept": {"a.py": "class A:\n    @property\n    def far(self):\n        return f(self)\n\n\n"
                        "def f(x):\n    do = x\n    return do(1)\n"},
    "L5 held": {"a.py": "class A:\n    def __init__(self, index):\n        self.index = index\n\n\n"
                        "class B:\n    def __eq__(self, other):\n        return self._like(other)\n\n"
                        "    def _like(self, other):\n        return f(other) == 1\n\n\n"
                        "def f(row):\n    return row.index(1)\n"},
    "L5 item": {"a.py": "class A:\n    @property\n    def far(self):\n        return f([self])\n\n\n"
                        "def f(xs):\n    return xs[0](1)\n"},
    "L6": {"a.py": "def f():\n    global x\n"},
    "L7 float": {"a.py": "def f():\n    return 1.5\n"},
    "L7 divide": {"a.py": "def f(a, b):\n    return a / b\n"},
    "L7 generator": {"a.py": "def f(xs):\n    return any(x for x in xs)\n"},
    "L7 star": {"a.py": "def f(xs):\n    return f(*xs[0])\n"},
    "L8": {"a.py": "def f(x):\n    return hash(x)\n"},
    "L10 line": {"a.py": "NAME = '" + "a" * 120 + "'\n"},
    "L10 function": {"a.py": "def f():\n" + "    k = 1\n" * 40},
    "L10 file": {"a.py": "# a line\n" * 400},
    "L12": {"a.py": "def f(_, x):\n    return _\n"},
    "L13": {"a.py": "def f():\n    s = {1, 2, 3}\n    return len(s)\n"},
    "L14 sign": {"a.py": "# \u00e4\n"},
    "L14 tab": {"a.py": "def f():\n\treturn 1\n"},
    "L14 name": {"test_a.py": "ONE = 1\n"},
    "L14 builtin": {"range.py": "ONE = 1\n"},
    "L15": {"a.py": "ONE = 1\nONE = 2\n"},
    "L15 nested": {"a.py": "ONE = [[1]]\n"},
    "L15 builtin": {"a.py": "def f(id):\n    return 1\n"},
    "L16": {"a.py": "from pack.b import g\n\n\ndef f():\n    return g()\n",
            "b.py": "from pack.a import f\n\n\ndef g():\n    return f()\n"},
    "L17": {"a.py": "def f(x):\n    x.mro = 1\n"},
    "L18": {"a.py": "def f(x):\n    return x.nowhere\n"},
    "L18 property": {"a.py": "class A:\n    @property\n    def far(self):\n        return 1\n\n\n"
                             "class B:\n    def __init__(self):\n        self.far = 1\n\n\n"
                             "def f(x):\n    return x.far\n"},
    "L19": {"a.py": "def f(x):\n    try:\n        return x()\n    except Exception:\n        return 1\n"},
    "L20": {"a.py": "def f(x, y):\n    return x is y\n"},
    "L22": {"a.py": "def f(xs):\n    return list(map=xs)\n"},
    "L23": {"a.py": "def f(xs):\n    for x in xs:\n        xs.append(x)\n"},
    "L24": {"a.py": "def f(xs):\n    return set(xs)\n"},
    "L25": {"a.py": "def f(x):\n    return x.isoformat()\n"},
    "L26": {"a.py": "class A:\n    def __init__(self):\n        self.items = 1\n"},
    "L27 sign": {"a.py": "NAME = '%'\n"},
    "L27 power": {"a.py": "def f(n):\n    return 2 ** n\n"},
    "L28": {"a.py": "class A:\n    def __eq__(self, other):\n        x = 1\n        return x == 1\n"},
}


class CheckLanguageTest(unittest.TestCase):

    def check(self, files):
        with tempfile.TemporaryDirectory() as folder:
            package = Path(folder) / "pack"
            package.mkdir()
            (package / "__init__.py").write_text("")
            for name, text in files.items():
                (package / name).write_text(text, encoding="utf-8")
            done = subprocess.run([sys.executable, str(SCRIPT), str(package)], capture_output=True, text=True)
            return done.returncode, done.stdout + done.stderr

    def test_a_package_without_a_breach(self):
        code, told = self.check({"a.py": '"""Text."""\n\nONE = 1\n\n\ndef f(x):\n    return x + ONE\n'})
        self.assertEqual(code, 0, told)

    def test_what_only_looks_like_a_breach(self):
        """A method of a builtin value is called; where nothing pure is run, also one with an attribute's name."""
        held = "class A:\n    def __init__(self, index):\n        self.index = index\n\n\n"
        same = "class B:\n    def __eq__(self, other):\n        return f([other]) == 1\n\n\n"
        for text in (held + same + "def f(row):\n    return row.count(1)\n",
                     held + "def f(row):\n    return row.index(1)\n",
                     held + same + "def f(row):\n    found = []\n    found.append(1)\n    return len(found)\n"):
            code, told = self.check({"a.py": text})
            self.assertEqual(code, 0, told)

    def test_breaches_are_found(self):
        for name, files in BREACHES.items():
            with self.subTest(name):
                code, told = self.check(files)
                self.assertEqual(code, 1, told)
                self.assertIn(f": {name.split()[0]}: ", told)

    def test_a_folder_that_is_no_package(self):
        with tempfile.TemporaryDirectory() as folder:
            done = subprocess.run([sys.executable, str(SCRIPT), folder], capture_output=True, text=True)
            self.assertEqual(done.returncode, 1)
