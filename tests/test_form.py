"""The form of the package, and that the checks of the form see what they are made for."""

import tempfile
import unittest
from pathlib import Path

from tests.form import faults

PACKAGE = Path(__file__).resolve().parent.parent / "duehouse"

PLANTED = [
    ("L2", "import os"),
    ("L4", "class One:\n    @property\n    @staticmethod\n    def two(self):\n        return 1"),
    ("L4", "@staticmethod\ndef one():\n    return 1"),
    ("L4", "class One:\n    @abs\n    def two(self):\n        return 1"),
    ("L5", "@abs\nclass One:\n    pass"),
    ("L6", "class One:\n    def __exit__(self, kind, value, trace):\n        self.x = self.y + self.z"),
    ("L6", "class One:\n    def __exit__(self, kind, value, trace):\n        if self.x:\n            self.y = 1"),
    ("L6", "class One:\n    def __exit__(self, kind, value, trace):\n        self.free()\n\n    def free(self):\n        pass"),
    ("L23", "def one():\n    yield 1\n\n\ndef two():\n    return one()"),
    ("L23", "class One:\n    def split(self):\n        yield 1"),
    ("L2", "from math import floor"),
    ("L2", "def one():\n    return 1\n\n\nfrom duehouse.other import two"),
    ("L16", "from duehouse.other import three"),
    ("L16", "from duehouse.other import two as three"),
    ("L3", "x = 1 + 1"),
    ("L3", "print(1)"),
    ("L15", "def one(list):\n    return list"),
    ("L15", "from duehouse.other import two\n\n\ndef one(two):\n    return two"),
    ("L8", "def one(x):\n    return hash(x)"),
    ("L25", "def one(x):\n    return x.splice()"),
    ("L5", "def one(xs):\n    return sorted(xs)"),
    ("L5", "def one(xs):\n    return max(xs[0], xs[1])"),
    ("L5", "class One:\n    def __hash__(self):\n        return 1"),
    ("L5", "class One:\n    def __getitem__(self, at):\n        return 1"),
    ("L6", "def one():\n    global x"),
    ("L7", "def one():\n    return 0.5"),
    ("L7", "def one(x):\n    return x / 2"),
    ("L7", "def one(xs):\n    return any(x for x in xs)"),
    ("L7", "def one(xs):\n    return {x for x in xs}"),
    ("L10", "def one():\n" + "    x = 1\n" * 40),
    ("L10", "X = '" + "a" * 120 + "'"),
    ("L10", "\n" * 400),
    ("L14", "X = '\t'"),
    ("L14", "# \u00e4"),
    ("L17", "# an enum"),
    ("L17", "X = 'type'"),
    ("L18", "class One:\n    def __init__(self):\n        self.x = 1\n\n    def x(self):\n        return 1"),
    (
        "L18",
        "class One:\n    def __init__(self):\n        self.x = 1\n\n\nclass Two:\n    def x(self):\n        return 1",
    ),
    ("L19", "def one(error):\n    raise error"),
    ("L20", "def one(x, y):\n    return x is y"),
    ("L21", "def one(x: int):\n    return x"),
    ("L23", "def one(xs):\n    return zip(xs, xs)"),
    ("L23", "def one(xs):\n    return two(range(3))\n\n\ndef two(xs):\n    return xs"),
    ("L23", "def one(xs):\n    return two(xs=range(3))\n\n\ndef two(xs):\n    return xs"),
    ("L23", "def one(xs):\n    return two(*range(3))\n\n\ndef two(*xs):\n    return xs"),
    ("L23", "def one(xs):\n    rows = range(3)\n    return two(rows)\n\n\ndef two(xs):\n    return xs"),
    ("L23", "def one(xs):\n    return two(zip(xs, xs))\n\n\ndef two(xs):\n    return xs"),
    ("L23", "def one(xs):\n    return two(xs, enumerate(xs))\n\n\ndef two(xs, ys):\n    return ys"),
    ("L23", "def one(xs):\n    return two(reversed(list(xs)))\n\n\ndef two(xs):\n    return xs"),
    ("L23", "def one(xs):\n    return two(xs.items())\n\n\ndef two(xs):\n    return xs"),
    ("L23", "def one(xs):\n    return two(xs.keys())\n\n\ndef two(xs):\n    return xs"),
    ("L23", "def one(xs):\n    return two(xs=xs.values())\n\n\ndef two(xs):\n    return xs"),
    ("L23", "class One:\n    def two(self, xs):\n        return self.two(range(3))"),
    ("L23", "class One:\n    def __init__(self, xs):\n        self.xs = range(3)"),
    ("L23", "def one(xs):\n    return range(3)"),
    ("L23", "def one(xs):\n    xs.extend(range(3))"),
    ("L23", "def one(xs):\n    return sum([1], range(3))"),
    ("L23", "def one(xs):\n    rows = range(3)\n    rows = range(4)\n    return len(rows)"),
    ("L26", "class One:\n    def union(self):\n        return 1"),
    ("L27", "X = '5%'"),
    ("L27", "def one(n):\n    return 2 ** n"),
]


class FormTest(unittest.TestCase):
    def test_package(self):
        self.assertEqual(faults(PACKAGE), [])

    def test_package_is_there(self):
        self.assertGreater(len(list(PACKAGE.glob("*.py"))), 5)

    def test_planted_faults_are_seen(self):
        for rule, text in PLANTED:
            with self.subTest(text[:80]), tempfile.TemporaryDirectory() as folder:
                package = Path(folder) / "duehouse"
                package.mkdir()
                (package / "other.py").write_text("def two():\n    return 2\n", encoding="utf-8")
                (package / "one.py").write_text(text + "\n", encoding="utf-8")
                self.assertIn(rule, [fault[0] for fault in faults(package)])

    def test_ranges_on_the_spot_are_let(self):
        text = '''def one(xs):
    rows = range(len(xs))
    pairs = [(row, at) for row in rows for at in range(3)]
    for row in reversed(range(3)):
        pairs.append((row, rows[0]))
    return two(list(range(len(rows)))), two(list(rows)), 3 in rows, len(range(4)), pairs


def two(xs):
    return xs
'''
        with tempfile.TemporaryDirectory() as folder:
            package = Path(folder) / "duehouse"
            package.mkdir()
            (package / "one.py").write_text(text, encoding="utf-8")
            self.assertEqual([fault for fault in faults(package) if fault[0] == "L23"], [])

    def test_other_files_and_rings_are_seen(self):
        with tempfile.TemporaryDirectory() as folder:
            package = Path(folder) / "duehouse"
            package.mkdir()
            (package / "notes.txt").write_text("", encoding="utf-8")
            (package / "one.py").write_text("from duehouse.two import b\n\nA = 1\n", encoding="utf-8")
            (package / "two.py").write_text("from duehouse.one import A\n\nb = 1\n", encoding="utf-8")
            self.assertEqual([fault[0] for fault in faults(package)], ["L1", "L16", "L16"])


if __name__ == "__main__":
    unittest.main()
