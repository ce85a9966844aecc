"""The package keeps to the part of Python that LANGUAGE.md tells, and the looks at it find what doesn't."""

import builtins
import os
import unittest

from rules import between_files, complaints, named_twice

TOP = os.path.dirname(os.path.dirname(os.path.abspath(__file__)))
PACKAGE = os.path.join(TOP, "nestturn")
MODULES = (
    "errors", "forms", "programs", "runs", "traces", "touch", "meets", "plans", "turns", "keeping", "alike", "rounds",
    "needs", "best", "texts", "desk",
)
BARRED_FILES = ("test", "tests", "testing", "site", "conftest", "sitecustomize", "usercustomize")


def files_of_package():
    return [name for name in sorted(os.listdir(PACKAGE)) if name != "__pycache__"]


def text_of(name):
    with open(os.path.join(PACKAGE, name), encoding="utf-8", newline="") as file:
        return file.read()


class Package(unittest.TestCase):
    def test_the_modules_are_there(self):
        for name in MODULES + ("__init__",):
            self.assertIn(name + ".py", files_of_package())

    def test_names_of_files(self):
        for name in files_of_package():
            self.assertRegex(name, r"^([a-z][a-z0-9_]*|__init__|__main__)\.py$")
            self.assertNotIn(name[:-3], BARRED_FILES)
            self.assertFalse(name.startswith("test_"), name)
            if not name.startswith("__"):
                self.assertFalse(hasattr(builtins, name[:-3]), name)

    def test_each_file_keeps_the_rules(self):
        for name in files_of_package():
            self.assertEqual(complaints(name, text_of(name)), [], name)

    def test_files_draw_from_those_that_define_and_not_from_one_another(self):
        texts = {name: text_of(name) for name in files_of_package()}
        self.assertEqual(between_files(texts), [])

    def test_no_name_is_a_method_and_a_value(self):
        self.assertEqual(named_twice({name: text_of(name) for name in files_of_package()}), [])

    def test_the_top_file_binds_no_name(self):
        self.assertNotRegex(text_of("__init__.py"), "(?m)^(from|def|class|[a-z]+ =)")


# For each rule some code that breaks it, in the row after the docstring or below.
WRONG = [
    ("L2", "from .errors import Tied"), ("L2", "from math import gcd"), ("L2", "from nestturn.errors import *"),
    ("L2", "def f():\n    from nestturn.errors import Tied"),
    ("L3", "X = len('ab')"), ("L3", "X = 1 + 1"), ("L3", "if 1:\n    pass"), ("L3", "f()"),
    ("L4", "def f(*a):\n    pass"), ("L4", "def f(**a):\n    pass"), ("L4", "def f(a, *, b):\n    pass"),
    ("L4", "@f\ndef g():\n    pass"), ("L4", "def f(a=[]):\n    pass"), ("L4", "def f(a=len('a')):\n    pass"),
    ("L5", "class A(B, C):\n    pass"), ("L5", "class A:\n    x = 1"),
    ("L6", "def f():\n    del x"), ("L6", "def f():\n    a = b = 1"), ("L6", "def f():\n    yield 1"),
    ("L6", "def f():\n    assert True"), ("L6", "def f():\n    for a in b:\n        pass\n    else:\n        pass"),
    ("L6", "def f():\n    with a:\n        pass"), ("L6", "def f():\n    a + 1"),
    ("L7", "def f():\n    return 1.5"), ("L7", "def f(a):\n    return a / 2"), ("L7", "def f():\n    return b'a'"),
    ("L7", "def f(a):\n    return {b: 1 for b in a}"), ("L7", "def f(a):\n    return sum(b for b in a)"),
    ("L7", "def f(a):\n    return [b for c in a for b in c]"), ("L7", "def f(a):\n    return f'{a + 1}'"),
    ("L7", "def f(a):\n    return [*a]"), ("L7", "def f(a):\n    return (b := a)"),
    ("L8", "def f(a):\n    return map(f, a)"), ("L8", "def f(a):\n    return print(a)"),
    ("L10", "def f():\n" + "    pass\n" * 40), ("L10", "X = '" + "a" * 120 + "'"), ("L10", "X = 1\n" * 400),
    ("L10", "def f():\n\treturn 1"),
    ("L12", "def f(_):\n    pass"), ("L12", "def f():\n    _a = 1"),
    ("L13", "def f(a):\n    return len({1, 2, 3})"), ("L13", "def f(a):\n    return [lambda x: 1, lambda x: 2]"),
    ("L14", "# caf\u00e9"),
    ("L15", "X = 1\nX = 2"), ("L15", "X = [[1], [2]]"), ("L15", "X = []\ndef f():\n    X.append(1)"),
    ("L15", "X = []\ndef f():\n    return (1, X)"), ("L15", "X = []\ndef f(a):\n    return X or a"),
    ("L15", "X = []\ndef f(a):\n    return f(X)"), ("L15", "X = []\ndef f(a):\n    a.b = X"),
    ("L15", "X = {}\ndef f():\n    X[1] = 2"), ("L15", "X = []\ndef f():\n    return X"),
    ("L15", "def f(id):\n    return id"), ("L15", "from nestturn.errors import Tied\ndef f(Tied):\n    pass"),
    ("L15", "def f():\n    class A:\n        pass"),
    ("L16", "import os"), ("L16", "import nestturn.errors"),
    ("L17", "X = 'type'"), ("L17", "# an enum"), ("L17", "def f(a):\n    return a.open"),
    ("L17", "def f(a):\n    return getattr(a, 'b')"),
    ("L18", "class A:\n    pass\ndef f():\n    return [A]"), ("L18", "class A(StopIteration):\n    pass"),
    ("L18", "class A:\n    pass\ndef f():\n    A.b = 1"), ("L18", "X = 1\ndef f():\n    X.b = 1"),
    ("L18", "def f(a):\n    a.b.c = 1"),
    ("L19", "def f(a):\n    try:\n        a = g(a)\n    except ValueError:\n        pass"),
    ("L19", "def f(a):\n    try:\n        a = int(a)\n        a = a + 1\n    except ValueError:\n        pass"),
    ("L19", "def f(a):\n    try:\n        a = int(a) * 2\n    except (KeyError, ValueError):\n        pass"),
    ("L19", "def f(a):\n    try:\n        a = a.index(1)\n    except IndexError:\n        pass"),
    ("L19", "def f(a):\n    try:\n        a = a[1:]\n    except IndexError:\n        pass"),
    ("L19", "def f():\n    try:\n        g()\n    except Exception:\n        pass"),
    ("L19", "def f():\n    try:\n        g()\n    except:\n        pass"), ("L19", "def f(e):\n    raise e"),
    ("L20", "def f(a, b):\n    return a is b"),
    ("L21", "def f(a: int):\n    pass"), ("L21", "def f() -> int:\n    pass"),
    ("L22", "def f(a):\n    return isinstance(a, set)"), ("L22", "def f(a):\n    return sorted(a, key=any)"),
    ("L22", "def f(a):\n    b = len"), ("L22", "def f(a, b):\n    return sorted(a, reverse=b)"),
    ("L22", "def f(a):\n    return a.split(sep=' ')"), ("L22", "def f(a):\n    return int(a, base=2)"),
    ("L23", "def f(a):\n    b = zip(a, a)"), ("L23", "def f(a):\n    return a.items()"),
    ("L23", "def f(a):\n    return range(3)"), ("L23", "def f(a):\n    return list(reversed(range(a)))"),
    ("L23", "def f(a):\n    for b in a:\n        a.append(b)"),
    ("L23", "def f(a):\n    for b, c in a.items():\n        a[b] = 1"), ("L23", "def f(a):\n    for b in a:\n        a += b"),
    ("L23", "def f(a):\n    for b in a.c:\n        a.c.append(b)"),
    ("L23", "def f(a):\n    for b, c in enumerate(a.d):\n        a.d[b] = c"),
    ("L24", "def f(a):\n    b = set(a)"), ("L24", "def f(a):\n    for b in set(a):\n        pass"),
    ("L24", "def f(a):\n    return sorted(set(a), key=len)"), ("L24", "def f(a):\n    return {a}"),
    ("L25", "def f(a):\n    return a.sort()"), ("L25", "def f(a):\n    return a.union(a)"),
    ("L25", "def f(a):\n    b = a.append"),
    ("L26", "class A:\n    def __init__(self):\n        self.args = 1"),
    ("L26", "class A:\n    def __init__(self):\n        self.items = 1"),
    ("L26", "class A:\n    def __init__(self):\n        self.casefold = 1"), ("L26", "class A:\n    def real(self):\n        pass"),
    ("L27", "def f(n):\n    return 2 ** n"), ("L27", "def f(n):\n    return 2 ** 65"), ("L27", "X = '5%'"),
    ("L27", "X = '\\x41'"), ("L27", "X = '\\r'"), ("L27", "X = 'a\\\\\\u0041'"),
    ("L28", "class A:\n    def __init__(self):\n        return None"),
    ("L28", "class A:\n    def __len__(self):\n        return self.a"), ("L28", "class A:\n    def __str__(self):\n        return self.a"),
    ("L28", "class A:\n    def __eq__(self, other):\n        self.a = 1\n        return True"),
]

GOOD = '''"""Some code that keeps the rules."""

from nestturn.errors import NoPlan, Tied
from nestturn.forms import is_whole

LINES = ("form", "block")
SIZES = [1, 99]
BEHIND = {"form": 1, "block": 2}


class Kept(ValueError):
    def __init__(self, pair):
        self.pair = pair


class Row:
    def __init__(self, text):
        self.words = text.split(" ")
        self.count = BEHIND.get(self.words[0], 0)

    def __len__(self):
        return len(self.words)

    def __repr__(self):
        return "\\n\\\\".join(self.words)

    def say(self, at, more="a"):
        told = []
        for word in self.words:
            told.append(word + more)
        try:
            return told[at]
        except IndexError:
            return list(SIZES)


def number_or(text, other=None):
    try:
        return int(text)
    except ValueError:
        return other


def looked(things, word):
    told = {}
    for at, thing in enumerate(things, start=1):
        if thing in (1, 2, 3) or isinstance(thing, (int, str)):
            told[thing] = at ** 2
    for thing, at in told.items():
        if at is None:
            raise Tied((thing, at))
    try:
        told["a"] = is_whole(told["b"])
    except KeyError:
        raise NoPlan(f"no {word}") from None
    return sorted(set(things)), len(set(things) - set(told)), sorted(range(3), key=lambda step: SIZES[step % 2])
'''


class Looks(unittest.TestCase):
    def test_what_breaks_a_rule_is_found(self):
        for rule, code in WRONG:
            told = complaints("some.py", '"""Some words."""\n' + code + "\n")
            self.assertIn(rule, [found for found, line in told], code)

    def test_what_keeps_the_rules_is_let_pass(self):
        self.assertEqual(complaints("some.py", GOOD), [])

    def test_a_file_without_words_at_its_top(self):
        self.assertEqual(complaints("some.py", "def f():\n    pass\n"), [("L3", 1)])

    def test_the_line_is_told(self):
        self.assertEqual(complaints("some.py", '"""Words."""\n\n\ndef f(a):\n    b = a\n    return b / 2\n'), [("L7", 6)])

    def test_files_that_draw_from_one_another(self):
        one = "from nestturn.b import g\n\n\ndef f():\n    pass\n"
        other = "from nestturn.a import f\n\n\ndef g():\n    pass\n"
        self.assertEqual(between_files({"a.py": one, "b.py": other}), [("L16", "a.py"), ("L16", "b.py")])
        self.assertEqual(between_files({"a.py": one, "b.py": "def g():\n    pass\n"}), [])

    def test_names_that_are_a_method_here_and_a_value_there(self):
        one = "class A:\n    def told(self):\n        pass\n"
        other = "class B:\n    def __init__(self):\n        self.told = 1\n"
        self.assertEqual(named_twice({"a.py": one, "b.py": other}), ["told"])
        self.assertEqual(named_twice({"a.py": one, "b.py": other.replace("told", "kept")}), [])

    def test_names_drawn_from_a_file_that_does_not_define_them(self):
        texts = {"a.py": "def f():\n    g = 1\n", "b.py": "from nestturn.a import f\n",
                 "c.py": "from nestturn.b import f\n", "d.py": "from nestturn.a import g\n"}
        self.assertEqual(between_files(texts), [("L16", "c.py"), ("L16", "d.py")])


if __name__ == "__main__":
    unittest.main()
