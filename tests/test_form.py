import pathlib
import unittest

from form import faults

FOLDER = pathlib.Path(__file__).resolve().parent.parent / "nohalfway"

# One text for each: the rule that it breaks is to be told.
BROKEN = [
    ("L2", "import random"),
    ("L2", "from random import Random"),
    ("L2", "from .errors import NoNet"),
    ("L2", "def f():\n    from nohalfway.errors import NoNet\n    return NoNet"),
    ("L16", "from nohalfway.errors import NoSuch"),
    ("L16", "from nohalfway.nowhere import name"),
    ("L3", "print(1)"),
    ("L3", "a = len([1])"),
    ("L3", "for a in [1]:\n    pass"),
    ("L4", "def f(*things):\n    return 1"),
    ("L4", "def f(**things):\n    return 1"),
    ("L4", "def f(*, a):\n    return 1"),
    ("L4", "def f(a=len([])):\n    return 1"),
    ("L4", "def f(g):\n    return g\n\n\n@f\ndef h():\n    return 1"),
    ("L5", "class A:\n    many = 1"),
    ("L5", "class A:\n    def __hash__(self):\n        return 1"),
    ("L5", "class A(ValueError, KeyError):\n    pass"),
    ("L5", "class A(list):\n    pass"),
    ("L6", "def f(a):\n    assert a"),
    ("L6", "def f(a):\n    del a[0]"),
    ("L6", "def f(a):\n    with a:\n        pass"),
    ("L6", "def f():\n    a = b = 1\n    return a + b"),
    ("L6", "def f():\n    for a in [1]:\n        pass\n    else:\n        pass"),
    ("L6", "def f():\n    try:\n        f()\n    finally:\n        pass"),
    ("L6", "def f():\n    try:\n        f()\n    except:\n        pass"),
    ("L6", "def f(a):\n    a + 1"),
    ("L7", "def f():\n    yield 1"),
    ("L7", "def f(a):\n    return all(b for b in a)"),
    ("L7", "def f(a):\n    return {b: 1 for b in a}"),
    ("L7", "def f(a):\n    return [c for b in a for c in b]"),
    ("L7", "def f(a):\n    return a / 2"),
    ("L7", "def f():\n    return 0.5"),
    ("L7", "def f():\n    return b'0'"),
    ("L7", "def f(a):\n    return max(*a)"),
    ("L7", "def f(a):\n    return f'{a + 1}'"),
    ("L7", "def f(a):\n    return f'{a:4}'"),
    ("L8", "def f(a):\n    return hash(a)"),
    ("L8", "def f(a):\n    return iter(a)"),
    ("L8", "def f(a):\n    print(a)"),
    ("L10", "a = '" + "a" * 120 + "'"),
    ("L10", "\n".join(f"a{number} = 1" for number in range(401))),
    ("L10", "def f():\n" + "    f()\n" * 40),
    ("L12", "_a = 1\n\n\ndef _f():\n    return 1"),
    ("L12", "def f():\n    for _ in [1]:\n        pass"),
    ("L13", "def f():\n    return [lambda a: a, lambda a: 1]"),
    ("L14", "# \u00e4"),
    ("L15", "a = 1\na = 2"),
    ("L15", "A = [[1]]"),
    ("L15", "A = [1]\n\n\ndef f():\n    A.append(1)"),
    ("L15", "A = [1]\n\n\ndef f():\n    A[0] = 2"),
    ("L15", "def f(id):\n    return 1"),
    ("L15", "from nohalfway.errors import NoNet\n\n\ndef f(NoNet):\n    return 1"),
    ("L15", "def f():\n    class A:\n        pass\n    return 1"),
    ("L17", "def f(a):\n    return type(a)"),
    ("L17", "# a type"),
    ("L17", "def f(a):\n    return a.open()"),
    ("L18", "class A(StopIteration):\n    pass"),
    ("L18", "class A:\n    def f(self):\n        return 1\n\n    def f(self):\n        return 2"),
    ("L18", "class A:\n    def f(self):\n        return 1\n\n\nclass B:\n    def __init__(self):\n        self.f = 1"),
    ("L19", "def f():\n    try:\n        f()\n    except Exception:\n        pass"),
    ("L19", "def f():\n    try:\n        f()\n    except (KeyError, TypeError):\n        pass"),
    ("L19", "def f():\n    raise ValueError"),
    ("L20", "def f(a, b):\n    return a is b"),
    ("L20", "def f(a):\n    return a is not 'a'"),
    ("L21", "def f(a: int):\n    return a"),
    ("L21", "def f(a) -> int:\n    return a"),
    ("L22", "def f(a):\n    g = len\n    return g(a)"),
    ("L22", "def f(a):\n    return int(a, base=2)"),
    ("L23", "def f(a):\n    b = zip(a, a)\n    return list(b)"),
    ("L23", "def f(a):\n    b = a.items()\n    return list(b)"),
    ("L23", "def f(a):\n    for b in a:\n        a.append(b)"),
    ("L23", "def f(a):\n    for k, b in enumerate(a):\n        a[k] = b"),
    ("L24", "def f(a):\n    b = set(a)\n    return len(b)"),
    ("L24", "def f():\n    for a in {1, 2}:\n        pass"),
    ("L25", "def f(a):\n    return a.isnumeric()"),
    ("L25", "def f(a):\n    b = a.append\n    return b"),
    ("L26", "class A:\n    def __init__(self):\n        self.items = 1"),
    ("L26", "class A:\n    def encode(self):\n        return 1"),
    ("L27", "def f(a):\n    return 2 ** a"),
    ("L27", "a = '%'"),
    ("L27", "a = '\\x41'"),
    ("L28", "class A:\n    def __init__(self):\n        return None"),
]
RIGHT = '''"""A file that keeps to the rules."""

from nohalfway.errors import NoNet

MOST = 4
WORDS = ["at", "out"]
PLACES = {"at": (1, 2), "out": (3,)}


class Pile:
    def __init__(self, things):
        self.held = list(things)
        self.count = len(things)

    def add(self, thing):
        self.held.append(thing)

    def shown(self):
        return " ".join([str(thing) for thing in self.held])


def told(pairs, most=MOST):
    kept = {}
    for place, (first, second) in enumerate(pairs):
        if first is None or place >= most:
            continue
        kept[first] = second if isinstance(second, (int, str)) else -1
    for first in sorted(kept):
        kept[first] += 2 ** 3
    if len(set(kept)) > most or any([word not in PLACES for word in WORDS]):
        raise NoNet(f"too many: {most}")
    return sorted(kept.items(), key=lambda pair: (pair[1], pair[0]), reverse=True)


def number_of(text):
    try:
        number = int(text)
    except ValueError:
        return None
    return number % 16
'''
ERRORS_FILE = "class NoNet(ValueError):\n    pass\n"


def package_files():
    return [path for path in FOLDER.rglob("*") if "__pycache__" not in path.parts]


class TheRules(unittest.TestCase):
    def test_each_broken_rule_is_told(self):
        for rule, text in BROKEN:
            with self.subTest(rule=rule, text=text[:200]):
                told = faults({"errors.py": ERRORS_FILE, "sample.py": text + "\n"})
                self.assertIn((rule, "sample.py"), [fault[:2] for fault in told])

    def test_nothing_is_told_of_what_keeps_to_them(self):
        self.assertEqual(faults({"errors.py": ERRORS_FILE, "sample.py": RIGHT}), [])

    def test_names_of_files(self):
        for name in ["notes.txt", "a-b.py", "tests.py", "test_nets.py", "filter.py", "Nets.py", "enum.py"]:
            with self.subTest(name):
                self.assertNotEqual(faults({name: ""}), [])

    def test_files_that_draw_from_one_another(self):
        told = faults({
            "first.py": "from nohalfway.second import b\n\na = 1\n",
            "second.py": "from nohalfway.first import a\n\nb = 1\n",
        })
        self.assertEqual([fault[:2] for fault in told], [("L16", "first.py"), ("L16", "second.py")])


class ThePackage(unittest.TestCase):
    def test_it_holds_python_files_alone(self):
        for path in package_files():
            with self.subTest(path.name):
                self.assertTrue(path.is_file())
                self.assertEqual((path.suffix, path.parent), (".py", FOLDER))
        self.assertIn(FOLDER / "__init__.py", package_files())

    def test_it_keeps_to_its_language(self):
        files = {path.name: path.read_bytes().decode("utf-8") for path in package_files()}
        self.assertEqual(faults(files), [])


if __name__ == "__main__":
    unittest.main()
