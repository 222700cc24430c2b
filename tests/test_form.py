"""The form: the files of the package keep to the rules of LANGUAGE.md that can be read off them."""

import ast
import builtins
import pathlib
import re
import unittest

from tests.form import AT_ONCE, METHODS, PACKAGE, faults_of, quiet_faults

FOLDER = pathlib.Path(__file__).resolve().parent.parent / PACKAGE

# Each row breaks its rule, so that the looking itself is tested.
BROKEN = [
    ("L2", "import math\n"),
    ("L2", "from . import shares\n"),
    ("L2", "from random import choice\n"),
    ("L2", "from math import gcd as common\n"),
    ("L2", "from neverowing.shares import *\n"),
    ("L2", "N = 1\nfrom neverowing.shares import Share\n"),
    ("L2", "from math import gcd\n\n\ndef f():\n    return gcd\n"),
    ("L2", "from heapq import heappop\n\n\ndef f(xs):\n    return sorted(xs, key=heappop)\n"),
    ("L2", "from math import gcd\n\nN = gcd(4, 6)\n"),
    ("L3", "N, M = 1, 2\n"),
    ("L3", "N = len('ab')\n"),
    ("L3", "for k in (1, 2):\n    pass\n"),
    ("L4", "@cached\ndef f():\n    pass\n"),
    ("L5", "class A:\n    def __hash__(self):\n        return 1\n"),
    ("L5", "class A:\n    def __eq__(self, other):\n        self.n = 1\n        return True\n"),
    ("L5", "class A:\n    def __add__(self, other):\n        self.rows.append(other)\n        return self\n"),
    ("L6", "def f():\n    global N\n"),
    ("L6", "async def f():\n    pass\n"),
    ("L6", "def f(n):\n    n + 1\n"),
    ("L7", "def f(n):\n    return n / 2\n"),
    ("L7", "def f():\n    return 1.5\n"),
    ("L7", "def f(xs):\n    return all(x > 1 for x in xs)\n"),
    ("L8", "def f(x):\n    return hash(x)\n"),
    ("L8", "def f(x):\n    return chr(x)\n"),
    ("L8", "def f(x):\n    list = x\n    return list\n"),
    ("L10", "def f():\n" + "    pass\n" * 40),
    ("L10", "# " + "a" * 119 + "\n"),
    ("L10", "\n" * 400),
    ("L12", "def __f():\n    pass\n"),
    ("L12", "def f(xs):\n    return [_ for _ in xs]\n"),
    ("L13", "def f(xs):\n    return sorted({1, 2, 3})\n"),
    ("L14", "# \u00e4\n"),
    ("L15", "N = 1\nN = 2\n"),
    ("L15", "class A:\n    pass\n\n\ndef f(A):\n    return 1\n"),
    ("L15", "def f(next):\n    return 1\n"),
    ("L17", "def f(law):\n    return 1\n"),
    ("L17", "N = 'an enum'\n"),
    ("L18", "class A:\n    def f(self):\n        return 1\n\n    def f(self):\n        return 2\n"),
    ("L18", "class A:\n    def __init__(self):\n        self.f = 1\n\n    def f(self):\n        return 2\n"),
    ("L19", "def f(x):\n    raise ValueError\n"),
    ("L19", "def f(x):\n    try:\n        return x\n    except TypeError:\n        return 1\n"),
    ("L19", "def f(x):\n    try:\n        return x\n    except:\n        return 1\n"),
    ("L20", "def f(x, y):\n    return x is y\n"),
    ("L22", "def f(xs):\n    return list(iterable=xs)\n"),
    ("L23", "def f(xs):\n    return zip(xs, xs)\n"),
    ("L23", "def f(xs):\n    return xs.items()\n"),
    ("L23", "def f(xs):\n    for x in xs:\n        xs.append(x)\n"),
    ("L23", "def f(xs):\n    for k, x in enumerate(xs):\n        xs[k] = x + 1\n"),
    ("L23", "def f(xs):\n    for key, x in xs.items():\n        del xs[key]\n"),
    ("L23", "def f(xs):\n    for x in xs if xs else []:\n        xs += [x]\n"),
    ("L23", "from heapq import heappush\n\n\ndef f(xs):\n    for x in xs:\n        heappush(xs, x)\n"),
    ("L24", "def f(xs):\n    return set(xs)\n"),
    ("L24", "def f(xs):\n    return [x for x in {1, 2}]\n"),
    ("L25", "def f(xs):\n    return xs.popitem()\n"),
    ("L26", "class A:\n    def encode(self):\n        return 1\n"),
    ("L26", "class A:\n    def __init__(self):\n        self.items = 1\n"),
    ("L27", "N = 'a%b'\n"),
    ("L27", "N = '__a__'\n"),
    ("L27", "def f(n):\n    return 2 ** n\n"),
    ("L27", "N = 'a\\d'\n"),
    ("L27", "N = 'a\\x41'\n"),
    ("L2", "from itertools import permutations\n\n\ndef f(xs):\n    rows = permutations(xs)\n    return rows\n"),
    ("L2", "from itertools import permutations\n\n\ndef f(xs):\n    return list(x for x in permutations(xs))\n"),
    ("L2", "from itertools import permutations\n\n\ndef f(xs):\n    return list(permutations(tuple(xs)))\n"),
    ("L2", "from itertools import product\n\n\ndef f(xs):\n    for x in product(xs, xs):\n        yield x\n"),
    ("L4", "def f(xs=[]):\n    return xs\n"),
    ("L4", "def f(*, n=len('a')):\n    return n\n"),
    ("L13", "def f(g):\n    return g(lambda x: x, lambda x: x + 1)\n"),
    ("L19", "def f(x):\n    try:\n        return g(x)\n    except ValueError:\n        return 1\n"),
    ("L23", "def f(x):\n    y = yield x\n    return\n"),
    ("L23", "def f(x):\n    try:\n        yield x\n    except KeyError:\n        return\n"),
    ("L23", "def f(x):\n    yield x\n    return 1\n"),
    ("L23", "class A:\n    @property\n    def f(self):\n        yield 1\n"),
    ("L28", "class A:\n    def __init__(self):\n        return None\n"),
    ("L28", "def __len__(x):\n    return 1\n"),
]

# A package of each of these files breaks L5: what an operator runs changes something.
LOUD = [
    "class A:\n    def __add__(self, other):\n        return told(other)\n\n\ndef told(xs):\n    xs.append(1)\n",
    "class A:\n    def __len__(self):\n        return len(self.f())\n\n    def f(self):\n        self.n = 1\n",
    "class A:\n    @property\n    def f(self):\n        return g([1])\n\n\ndef g(xs):\n    xs[0] = 2\n    return xs\n",
    "class A:\n    def __iadd__(self, n):\n        return self\n\n    def __contains__(self, n):\n        return f(n)\n\n\n"
    "def f(n):\n    n += 1\n    return n > 2\n",
]


def files():
    return sorted(path for path in FOLDER.rglob("*") if "__pycache__" not in path.parts)


def sources():
    return [(path, path.read_text(encoding="utf-8")) for path in files() if path.suffix == ".py"]


def module_name(path):
    return ".".join((PACKAGE,) + path.relative_to(FOLDER).with_suffix("").parts)


def imports(text):
    """The list of pairs of a module and a name that the file imports from the package."""
    found = [node for node in ast.walk(ast.parse(text)) if isinstance(node, ast.ImportFrom)]
    return [(node.module, alias.name) for node in found if node.module.startswith(PACKAGE) for alias in node.names]


def defined(text):
    """The names that the file binds at module level but for imports."""
    names = []
    for node in ast.parse(text).body:
        if isinstance(node, (ast.FunctionDef, ast.ClassDef)):
            names.append(node.name)
        if isinstance(node, ast.Assign):
            names.append(node.targets[0].id)
    return names


class FormTest(unittest.TestCase):
    def test_files_keep_to_the_rules(self):
        for path, text in sources():
            self.assertEqual(faults_of(text), [], path.name)

    def test_faults_are_found(self):
        for rule, text in BROKEN:
            self.assertIn(rule, [fault[0] for fault in faults_of(text)], text)

    def test_operators_and_properties_change_nothing(self):
        self.assertEqual(quiet_faults([text for _, text in sources()]), [])
        for text in LOUD:
            self.assertIn("L5", [fault[0] for fault in quiet_faults([text])], text)

    def test_generators_are_iterated_at_once(self):
        trees = [ast.parse(text) for _, text in sources()]
        names = {one.name for tree in trees for one in ast.walk(tree) if isinstance(one, ast.FunctionDef)
                 and any(isinstance(row, (ast.Yield, ast.YieldFrom)) for row in ast.walk(one))}
        self.assertEqual(names, {"watch"})
        for tree in trees:
            right = [one.iter for one in ast.walk(tree) if isinstance(one, (ast.For, ast.comprehension))]
            right += [one.args[0] for one in ast.walk(tree) if isinstance(one, ast.Call) and one.args
                      and getattr(one.func, "id", "") in AT_ONCE]
            for one in ast.walk(tree):
                if isinstance(one, ast.Call) and getattr(one.func, "attr", getattr(one.func, "id", "")) in names:
                    self.assertIn(one, right)

    def test_folder_contains_python_files_alone(self):
        self.assertIn(FOLDER / "__init__.py", files())
        self.assertLessEqual(len(files()), 100)
        for path in files():
            if path.is_dir():
                self.assertTrue((path / "__init__.py").is_file(), path)
            else:
                self.assertRegex(path.name, r"^[a-z0-9_]+\.py$")
                self.assertNotRegex(path.name, r"^(law_|test|site|conftest|usercustomize)")
                self.assertFalse(hasattr(builtins, path.stem) and path.stem != "__init__", path)

    def test_package_file_binds_nothing(self):
        self.assertEqual(defined((FOLDER / "__init__.py").read_text()), [])
        self.assertEqual(imports((FOLDER / "__init__.py").read_text()), [])

    def test_names_are_imported_from_where_they_are_defined(self):
        names = {module_name(path): defined(text) for path, text in sources()}
        for path, text in sources():
            for module, name in imports(text):
                self.assertIn(name, names[module], path.name)

    def test_no_two_files_import_from_each_other(self):
        waiting = {module_name(path): {module for module, _ in imports(text)} for path, text in sources()}
        while waiting:
            free = [name for name, needs in waiting.items() if not needs & set(waiting)]
            self.assertTrue(free, "files import from each other: " + ", ".join(waiting))
            for name in free:
                del waiting[name]

    def test_each_import_is_used(self):
        for path, text in sources():
            for _, name in imports(text):
                self.assertGreater(len(re.findall(r"\b" + name + r"\b", text)), 1, (path.name, name))

    def test_attributes_are_assigned_or_methods(self):
        stored, read, methods = set(), set(), set()
        for _, text in sources():
            for node in ast.walk(ast.parse(text)):
                if isinstance(node, ast.Attribute):
                    (stored if isinstance(node.ctx, ast.Store) else read).add(node.attr)
                if isinstance(node, ast.FunctionDef):
                    methods.add(node.name)
        self.assertEqual(read - stored - methods - set(METHODS), set())


if __name__ == "__main__":
    unittest.main()
