import pathlib
import unittest

from form import PACKAGE, faults_of_classes, faults_of_file, faults_of_imports

FOLDER = pathlib.Path(__file__).resolve().parent.parent / PACKAGE

BREACHES = (
    ("L16", "import sys"), ("L2", "from math import gcd"), ("L2", "from .errors import BadLine"),
    ("L3", "made(1, 2)"), ("L3", "some = made(1, 2)"), ("L3", "a = 1\nb = (a, a)"), ("L4", "def f(*some):\n    pass"),
    ("L5", "class One:\n    two = 3"), ("L6", "def f(x):\n    assert x"), ("L6", "def f():\n    a = b = 1"),
    ("L6", "def f(x):\n    for y in x:\n        pass\n    else:\n        pass"), ("L6", "def f(x):\n    del x"),
    ("L7", "def f(x):\n    return x / 2"), ("L7", "def f():\n    return 1.5"),
    ("L7", "def f(x):\n    return {y for y in x}"), ("L7", "def f(x):\n    return sum(y for y in x)"),
    ("L8", "def f(x):\n    return pow(x, 2)"), ("L10", "def f():\n" + "    pass\n" * 40),
    ("L10", "# " + "a" * 120), ("L12", "def f(x):\n    for _ in x:\n        pass"),
    ("L14", "# \u00e4"), ("L14", "\t# a"), ("L15", "a = 1\na = 2"), ("L15", "def f(min):\n    return min"),
    ("L15", "from catchhall.fractions import less\n\n\ndef f():\n    less = 1\n    return less"),
    ("L17", "# a type"), ("L17", "def f(x):\n    return x.mro"),
    ("L19", "def f():\n    try:\n        pass\n    except Exception:\n        pass"),
    ("L20", "def f(x, y):\n    return x is y"), ("L21", "def f(x: int):\n    return x"),
    ("L22", "def f():\n    return len"), ("L22", "def f(x):\n    return int(x, base=3)"),
    ("L23", "def f():\n    a = range(3)\n    return a"),
    ("L23", "def f(x):\n    for y in x:\n        x.append(y)"), ("L24", "def f(x):\n    a = set(x)\n    return a"),
    ("L23", "def f(x):\n    for k, y in enumerate(x):\n        x[k] = y"),
    ("L25", "def f(x):\n    return x.sort()"), ("L27", "def f(n):\n    return 2 ** n"), ("L27", "a = 'b%'"),
)


def rules_of(faults):
    return {fault.split()[0] for fault in faults}


class Form(unittest.TestCase):
    def files(self):
        return {each.name: each.read_text(encoding="utf-8") for each in FOLDER.iterdir() if each.is_file()}

    def test_only_python_files_lie_in_the_package(self):
        for each in FOLDER.iterdir():
            self.assertTrue(each.suffix == ".py" or each.name == "__pycache__", each.name)
        self.assertIn("__init__.py", self.files())

    def test_each_file_keeps_to_the_form(self):
        for name, text in self.files().items():
            self.assertEqual(faults_of_file(name, text), [], name)

    def test_imports(self):
        self.assertEqual(faults_of_imports(self.files()), [])

    def test_classes(self):
        self.assertEqual(faults_of_classes(self.files()), [])


class Looking(unittest.TestCase):
    def test_each_breach_is_seen(self):
        for rule, text in BREACHES:
            self.assertIn(rule, rules_of(faults_of_file("one.py", text)), text)

    def test_what_the_rules_allow_is_left_alone(self):
        table = "def f(x):\n    return -x\n\n\nTABLE = {'f': (f, -1)}\n"
        walk = "def f(x):\n    return [y for k, y in enumerate(x, start=1) if k in set(x)]\n"
        kinds = "def f(x):\n    return isinstance(x, (int, str)) and x is not None and sorted(set(x), key=len) == []\n"
        for text in (table, walk, kinds):
            self.assertEqual(faults_of_file("one.py", text), [], text)

    def test_names_of_files(self):
        for name in ("Lines.py", "test_lines.py", "len.py", "lines.txt", "site.py"):
            self.assertIn("L14", rules_of(faults_of_file(name, "")), name)

    def test_a_method_and_a_value_of_one_name(self):
        files = {
            "one.py": "class One:\n    def names(self):\n        return 1\n",
            "two.py": "class Two:\n    def __init__(self):\n        self.names = 1\n",
        }
        self.assertEqual(rules_of(faults_of_classes(files)), {"L18"})

    def test_rings_and_roundabout_imports(self):
        ring = {
            "one.py": "from catchhall.two import b\n\na = 1\n",
            "two.py": "from catchhall.one import a\n\nb = 1\n",
        }
        self.assertEqual(rules_of(faults_of_imports(ring)), {"L16"})
        roundabout = {
            "one.py": "a = 1\n",
            "two.py": "from catchhall.one import a\n",
            "three.py": "from catchhall.two import a\n",
        }
        self.assertEqual(rules_of(faults_of_imports(roundabout)), {"L16"})


if __name__ == "__main__":
    unittest.main()
