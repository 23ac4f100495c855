"""The package keeps to those rules of its language that can be seen in a file."""

import ast
import pathlib
import unittest

from tests.language import breaches

PACKAGE = pathlib.Path(__file__).resolve().parent.parent / "startgaps"
BAD = [
    ("L2", "import os.path as path\nfrom os import path\n"),
    ("L2", "from startgaps.works import *\n"),
    ("L2", "from .works import bars\n"),
    ("L2", "from heapq import heappush as push\n"),
    ("L2", "A = 1\nfrom startgaps.works import bars\n"),
    ("L2", "from heapq import heappop\n\n\ndef told(xs):\n    return sorted(xs, key=heappop)\n"),
    ("L3", "A, B = 1, 2\n"),
    ("L3", "A = list()\n"),
    ("L3", "print(1)\n"),
    ("L4", "@made\ndef told(one):\n    return one\n"),
    ("L4", "def told(one=[]):\n    return one\n"),
    ("L5", "class Box:\n    def __hash__(self):\n        return 1\n"),
    ("L5", "class Box:\n    def __getitem__(self, at):\n        return at\n"),
    ("L5", "class Box:\n    def __len__(self):\n        self.n = 1\n        return 1\n"),
    ("L5", "class Box:\n    @property\n    def many(self):\n        self.n = 1\n        return 1\n"),
    ("L5", "class Box:\n    def __len__(self):\n        return super().__len__()\n"),
    ("L5", "class Box:\n    def many(self):\n        return super().many\n"),
    ("L6", "def told():\n    global A\n    A = 1\n"),
    ("L6", "def told(one):\n    try:\n        one()\n    finally:\n        one()\n"),
    ("L6", "def told(one):\n    k = 1\n    try:\n        one()\n    finally:\n        if k == 1:\n            k = 2\n"),
    ("L7", "def told(xs):\n    return max(*sorted(xs))\n"),
    ("L6", "def told(one):\n    try:\n        one()\n    except:\n        pass\n"),
    ("L7", "A = 1.5\n"),
    ("L7", "def told(one):\n    return one / 2\n"),
    ("L7", "def told(xs):\n    return any(x for x in xs)\n"),
    ("L8", "def told(one):\n    return hash(one)\n"),
    ("L8", "def told(one):\n    return one.__dict__\n"),
    ("L10", "A = 1  # " + "a" * 120 + "\n"),
    ("L10", "def told():\n" + "    pass\n" * 40),
    ("L10", "A = 1\n" + "# a\n" * 400),
    ("L12", "def told(__one):\n    return __one\n"),
    ("L12", "def told(xs):\n    for _ in xs:\n        return _\n"),
    ("L14", "A = '\u00e9'\n"),
    ("L15", "A = 1\nA = 2\n"),
    ("L15", "def told(sum):\n    return sum\n"),
    ("L15", "from startgaps.works import bars\n\n\ndef told(bars):\n    return bars\n"),
    ("L16", "import heapq\n"),
    ("L17", "A = 'an enum'\n"),
    ("L17", "def told(type):\n    return type\n"),
    ("L18", "class Box:\n    def many(self):\n        pass\n\n    def many(self):\n        pass\n"),
    ("L18", "class Box:\n    def __init__(self):\n        self.many = 1\n\n    def many(self):\n        pass\n"),
    ("L19", "def told(one):\n    try:\n        one()\n    except Exception:\n        pass\n"),
    ("L19", "def told(one):\n    raise one.wrong()\n"),
    ("L20", "def told(one, other):\n    return one is other\n"),
    ("L24", "def told(xs):\n    return set(xs)\n"),
    ("L24", "def told(xs):\n    return [x for x in {1, 2}]\n"),
    ("L25", "def told(text):\n    return text.format(1)\n"),
    ("L25", "def told(xs):\n    xs.sort()\n"),
    ("L27", "A = 'a % b'\n"),
    ("L27", "def told(x):\n    return 1if x else 2\n"),
]


class Language(unittest.TestCase):

    def test_the_package(self):
        for path in sorted(PACKAGE.rglob("*.py")):
            with self.subTest(path.name):
                self.assertEqual(breaches(path.name, path.read_text(encoding="utf-8")), [])

    def test_each_check_finds_what_is_bad(self):
        for rule, text in BAD:
            with self.subTest(text=text):
                self.assertIn(rule, [found for found, _ in breaches("some.py", text)])

    def test_bad_file_names(self):
        for name in ("Works.py", "test_works.py", "tests.py", "len.py", "a-b.py"):
            with self.subTest(name):
                self.assertEqual(breaches(name, "A = 1\n"), [("L14", 1)])

    def test_only_python_files(self):
        for path in sorted(PACKAGE.rglob("*")):
            if "__pycache__" not in path.parts:
                self.assertTrue(path.suffix == ".py" or (path.is_dir() and (path / "__init__.py").is_file()), path)

    def test_names_are_imported_from_the_files_that_define_them(self):
        asked, defined = {}, {}
        for path in PACKAGE.glob("*.py"):
            module = "startgaps." + path.stem
            tree = ast.parse(path.read_text(encoding="utf-8"))
            parts = [part for part in tree.body if isinstance(part, (ast.FunctionDef, ast.ClassDef))]
            values = [part for part in tree.body if isinstance(part, ast.Assign)]
            defined[module] = [part.name for part in parts] + [part.targets[0].id for part in values]
            asked[module] = [(part.module, alias.name) for part in tree.body if isinstance(part, ast.ImportFrom)
                             for alias in part.names if part.module.startswith("startgaps")]
        for module, names in asked.items():
            for source, name in names:
                self.assertIn(name, defined[source], module)
        reached = {module: {source for source, _ in names} for module, names in asked.items()}
        for _ in reached:
            for module, sources in reached.items():
                reached[module] = sources.union(*[reached[source] for source in sources])
        for module, sources in reached.items():
            self.assertNotIn(module, sources)


if __name__ == "__main__":
    unittest.main()
