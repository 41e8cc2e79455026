"""The rules of the language: the package keeps them, and the checker sees breaches."""

import pathlib
import unittest

from tests.language.report import complaints, read

ROOT = pathlib.Path(__file__).resolve().parent.parent
BESIDE = {
    "__init__.py": '"""A package."""\n',
    "good.py": '"""A file."""\n\nTABLE = [1, 2]\n\n\ndef told(a, b=2):\n    return a + b\n',
}
BASE = "class Base(ValueError):\n    def __init__(self, at):\n        self.at = at\n\n\n"


def rows(*told):
    """A function with these rows."""
    return "def sample(xs, a, b):\n" + "".join(f"    {row}\n" for row in told)


BAD = {
    "L2": ["import math\n", "from os import path\n", "from math import pi\n", "from .good import told\n",
           "from math import gcd as common\n", "A = 1\nfrom math import gcd\n",
           "from pl.good import *\n", "from math import gcd\n" + rows("return [gcd]"),
           "from math import gcd\n" + rows("return gcd(*xs)"), rows("from math import gcd", "pass"),
           "from collections import deque\n"],
    "L3": ["A, B = 1, 2\n", "A = B = 1\n", "A = len('a')\n", "for a in (1, 2):\n    pass\n",
           "A = [[1]]\n", "if True:\n    A = 1\n", "len('a')\n"],
    "L4": ["def a(*rest):\n    pass\n", "def a(**more):\n    pass\n", "def a(b=[]):\n    pass\n",
           "def a(b=len):\n    pass\n", "def a(b, /):\n    pass\n", rows("return lambda *c: 1"),
           "@told\ndef a():\n    pass\n"],
    "L5": ["class A:\n    B = 1\n", "class A(dict):\n    pass\n", "class A(dict, list):\n    pass\n",
           "class A(metaclass=int):\n    pass\n"],
    "L6": [rows("global c", "c = 1"), rows("del a"), rows("assert (a, b)"), "async def a():\n    pass\n",
           rows("with a:", "    pass"), rows("match a:", "    case _:", "        pass"),
           rows("try:", "    a = 1", "finally:", "    b = 1"), rows("[a, b] = xs"),
           rows("for a[0] in xs:", "    pass"), rows("a, *b = zip(xs)")],
    "L7": [rows("return a / b"), rows("return 0.5"), rows("return 2j"), rows("return ..."),
           rows("return sum(c for c in xs)"), rows("return a @ b"), rows("return bytes(xs)"),
           rows("return (a)(b)(a)"), rows("return told(**a)"), rows("return f'{a!a}'"),
           rows("return f'{a:{b}}'"), rows("return f'{a:.3f}'"), "A = [a for a in (1, 2)]\n",
           rows("return [[a for a in c] for a in xs]"), rows("return len(*xs)"),
           rows("if (c := a):", "    pass"), rows("return xs['a'](b)")],
    "L8": [rows("return print(a)"), rows("return unknown"), rows("return hash(a)"), rows("return pow(a, b)"),
           rows("return chr(a)"), rows("__a = 1"), rows("return a.__dict__"), rows("return input()"),
           rows("return float(a)"), rows("return a.__class__"), rows("return frozenset(xs)"),
           rows("return a.__hash__()"), rows("return __file__")],
    "L10": ["\n" * 400, "#" + "a" * 120 + "\n", "if True:\n\tpass\n", rows(*["a = 1"] * 40)],
    "L12": [rows("a_ = 1", "_enum_a = 1"), "class _A:\n    pass\n", "# _wall\n", rows("_record = 1")],
    "L13": [rows("c = {1, 2, 3}", "return a in c"), rows("return a in {(-1, 1), (-2, 1)}"),
            rows("return [lambda c: 1, lambda c: 2]")],
    "L14": ["# \u00e9\n", "A = '\u00b1'\n"],
    "L15": ["A = 1\nA = 2\n", "def a():\n    pass\n\n\ndef a():\n    pass\n", rows("len = 1"), rows("id = 1"),
            rows("class A:", "    pass"), "from math import gcd\n\n\ndef a(gcd):\n    pass\n",
            "def hash():\n    pass\n", "A = []\n\n\ndef a():\n    A.append(1)\n",
            "A = []\n\n\ndef a():\n    return A\n", "A = {}\n\n\ndef a():\n    A[1] = 1\n",
            "from pl.good import TABLE\n\n\ndef a():\n    TABLE[0] = 1\n", "def a(min):\n    pass\n",
            "class A:\n    def len(self):\n        pass\n", "class A:\n    pass\n\n\ndef b(A):\n    pass\n"],
    "L16": ["from pl.good import unknown\n", "from pl.bad import told\n"],
    "L17": [rows("register = 1"), rows("vars = 1"), rows("return a.open"), rows("type = 1"), rows("return 'enum'"),
            rows("return a.f_code"), rows("told(law=1)"), "def help():\n    pass\n", "A = 'my dataclasses'\n",
            rows("return type(a)")],
    "L18": ["class A:\n    def b(self):\n        self.b = 1\n", "class A:\n    def b(self):\n        self.c.d = 1\n",
            "class A:\n    def b(self):\n        pass\n\n    def b(self):\n        pass\n", rows("return a.unknown"),
            "class A(AttributeError):\n    pass\n"],
    "L19": [rows("try:", "    a = 1", "except ValueError:", "    pass"), rows("raise a"), rows("raise ValueError"),
            rows("try:", "    a = 1", "except Exception:", "    pass"), rows("raise"), rows("raise told(a)"),
            rows("try:", "    a = 1", "except:", "    pass"), BASE + rows("raise Base(a) from b"),
            BASE + rows("try:", "    a = 1", "except Base as e:", "    e = 1"),
            rows("raise TypeError() if a else ValueError()")],
    "L20": [rows("return a is b"), rows("return a is not 1")],
    "L21": ["def a(b: int):\n    pass\n", "def a() -> int:\n    pass\n", rows("c: int = 1")],
    "L22": [rows("return len"), rows("return [int]"), rows("return isinstance(a, object)"),
            rows("return isinstance(a, (int, set))"), rows("return sorted(xs, key=repr)"), rows("return len(a, b)"),
            rows("return sorted(xs, reverse=a)"), rows("return int(a, base=2)"), BASE + rows("return Base()"),
            BASE + rows("return [Base]"), "from pl.good import told\n" + rows("return told()"),
            "from pl.good import told\n" + rows("return told(1, 2, 3)"),
            "from pl.good import told\n" + rows("return told(1, c=3)"),
            "from pl.good import told\n" + rows("return told(1, a=3)"), rows("raise ValueError(why=1)"),
            rows("return isinstance(a, int | str)")],
    "L23": [rows("yield a"), rows("c = zip(xs, xs)", "return c"), rows("return range(3)"), rows("return xs.items()"),
            rows("for c in xs:", "    xs.append(c)"), rows("for c in xs:", "    xs[0] = c"),
            rows("for c, d in enumerate(xs):", "    del xs[0]"), rows("for c in xs.items():", "    xs.pop(c)"),
            rows("return [xs.pop() for c in xs]"), rows("return reversed(xs)"), rows("return len(xs.keys())"),
            rows("for c in a or xs:", "    xs += [1]"),
            "from itertools import combinations\n" + rows("return [c for c in enumerate(combinations(xs, 2))]"),
            "from itertools import product\n" + rows("return ' '.join(product(xs, xs))")],
    "L24": [rows("for c in set(xs):", "    pass"), rows("return set(xs)"), rows("c = set()", "return c"),
            rows("c = {1}", "c = set()"), rows("c = set()", "c.update(xs)"), rows("c = {d for d in xs}", "told(c)"),
            rows("return list({a, b})"), rows("c = set()", "c |= {a}"), rows("c = set()", "return lambda: a in c")],
    "L25": [rows("return a.sort()"), rows("return 'a'.format(b)"), rows("return a.union(b)"), rows("return a.encode()"),
            rows("return xs.pop(at=1)"), rows("return a.symmetric_difference(b)"), rows("return a.to_bytes()")],
    "L26": ["class A:\n    def decode(self):\n        pass\n", "class A:\n    def b(self):\n        self.items = 1\n",
            "class A:\n    def is_integer(self):\n        pass\n"],
    "L27": [rows("return a ** b"), rows("return 2 ** 65"), rows("return 2 ** -1"), "A = '%'\n", "A = '\\t\\x41'\n",
            "A = '__odd__'\n", "A = 'a.__x'\n", "A = 'f_code'\n", "A = 'a._'\n", "A = 1" + "0" * 900 + "\n",
            rows("return 1if a else b"), rows("return f'{a[\"b\"]}'"), '"""A \\d."""\n', "b = 'a' \\\n    '\\u0041'\n"],
    "L28": ["class A:\n    def __hash__(self):\n        return 1\n", "def __eq__(a, b):\n    return True\n",
            "class A:\n    def __init__(self):\n        return None\n",
            "class A:\n    def __len__(self):\n        return self.b\n",
            "class A:\n    def __eq__(self, other):\n        self.b = 1\n        return True\n",
            "class A:\n    def __repr__(self):\n        if self:\n            return ''\n"],
}
GOOD = [
    BASE + "class Wrong(Base):\n    pass\n\n\n"
    + rows("try:", "    told(a)", "except Base as e:", "    raise Wrong(e.at)")
    + "\n\ndef told(a):\n    raise Base(at=a)\n",
    "from math import gcd\n\nfrom pl.good import TABLE, told\n\nNAMES = {'a': 1, 'b': (-1, None)}\n\n\n"
    + rows("for c, (d, e) in sorted(NAMES.items()):", "    xs.append((c, d, e))",
           "return gcd(TABLE[0], told(a, b=b))"),
    rows("seen = set()", "for c in xs:", "    if c not in seen:", "        seen.add(c)", "return sorted(seen)"),
    rows("return [c for d in xs for c in d if c in {1, 2, 3}]"),
    rows("return sorted(xs, key=lambda c: c[0], reverse=True), max([len(c) for c in [xs]])"),
    rows("return set(xs) == set(a), len({c for c in xs}), f'{a:>5} and {b!r}', a ** 2 < 10 ** 30"),
    rows("def inner(c):", "    return c + a", "", "return [inner(c) for c in range(3)], a is None, b is not True"),
    "class A:\n    \"\"\"Rows.\"\"\"\n\n    def __init__(self, rows=()):\n        self.rows = list(rows)\n\n"
    "    def __eq__(self, other):\n        return isinstance(other, A) and self.rows == other.rows\n\n"
    "    def __len__(self):\n        return len(self.rows)\n\n"
    "    def put(self, row):\n        self.rows.append(row)\n\n\n"
    "def made(rows):\n    box = A(rows=rows)\n    box.put(1)\n    return box\n",
    rows("while a > 0 and not b:", "    a -= 1", "    xs[a:b] = [*xs, 1]", "    del xs[0]", "else:", "    a, *b = xs",
         "return {**a, 'c': b}, 5 in range(a), ' '.join(reversed(xs))"),
]


def rules_broken(text, beside=None):
    texts = {**BESIDE, "bad.py": text} if beside is None else {**BESIDE, **beside}
    return [rule for rule, _, _, _ in complaints("pl", texts)]


class ThePackage(unittest.TestCase):
    def test_keeps_the_rules(self):
        self.assertEqual(complaints("nearcells", read(ROOT / "nearcells")), [])

    def test_has_no_tests_inside(self):
        self.assertEqual([name for name in read(ROOT / "nearcells") if "test" in name], [])


class TheChecker(unittest.TestCase):
    def test_sees_what_is_barred(self):
        for rule, texts in BAD.items():
            for text in texts:
                with self.subTest(rule, text=text):
                    self.assertIn(rule, rules_broken(text))

    def test_lets_in_what_is_allowed(self):
        for text in GOOD:
            with self.subTest(text=text):
                self.assertEqual(complaints("pl", {**BESIDE, "bad.py": text}), [])

    def test_sees_files_that_do_not_belong(self):
        for name in ("notes.txt", "Upper.py", "a-b.py", "kind.pyc"):
            with self.subTest(name):
                self.assertIn("L1", rules_broken("", {name: ""}))
        for name in ("test_a.py", "tests.py", "math.py", "type.py", "len.py", "__main__.py", "inner/a.py"):
            with self.subTest(name):
                self.assertIn("L14", rules_broken("", {name: ""}))

    def test_sees_files_that_import_from_each_other(self):
        beside = {"one.py": "from pl.two import b\n\n\ndef a():\n    return b()\n",
                  "two.py": "from pl.three import c\n\n\ndef b():\n    return c()\n",
                  "three.py": "from pl.one import a\n\n\ndef c():\n    return a()\n"}
        self.assertEqual(rules_broken("", beside), ["L16", "L16", "L16"])
