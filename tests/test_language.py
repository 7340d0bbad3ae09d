"""The whole program, held against ../shared/LANGUAGE.md, and the holding itself, held against breaks of each rule."""

import pathlib
import unittest

from tests.language import faults

ROOT = pathlib.Path(__file__).resolve().parent.parent
PACKAGE = ROOT / "timesrow"
# The modules of the interface.
MODULES = ("errors", "rules/steps", "rules/rounds", "told/fits", "told/bounds", "told/parts", "two/woven", "two/alike",
           "kept", "whole")

HEAD = '''"""Errors."""


class Wrong(ValueError):
    """Something wrong."""


class WrongNumber(Wrong):
    """A wrong number."""

    def __init__(self, number):
        Wrong.__init__(self, "wrong")
        self.number = number


def doubled(number, times=2):
    """So many times the number."""
    return times * number
'''

GOOD = '''"""Plain things."""

from pack.errors import Wrong, WrongNumber, doubled

SIGNS = "ab"
ROWS = {"a": (1, 2), "b": (3, -4)}


def first(number):
    """The first."""
    return number


ACTIONS = {"first": first}


class Box:
    """A box."""

    def __init__(self, rows):
        self.rows = list(rows)
        self.many = 0

    def put(self, row):
        """One more."""
        self.rows.append(row)
        self.many += 1


def all_of(xs, seen):
    """Many things at once."""
    action = ACTIONS["first"]
    out = []
    for place, number in enumerate(xs):
        if number not in seen and number is not None:
            out.append(doubled(action(number), times=place))
        elif isinstance(number, (int, str)):
            raise WrongNumber(number)
    while len(out) > 3:
        out.pop()
    low, high = min(out), max(out, default=0, key=abs)
    return tuple(sorted([x for x in out if low <= x], key=lambda x: -x)) + (high, ROWS["a"][0])


def tried(xs):
    """What is caught."""
    try:
        return all_of(xs, seen=[])
    except (Wrong, KeyError):
        return f"{len(xs)} of {xs[0]}" + ", ".join(str(x) for x in xs[::-1]) + SIGNS
'''


def inner(*rows):
    """A function of these rows, over two numbers."""
    return "def told(xs, k):\n" + "".join(f"    {row}\n" for row in rows)


# By each rule, texts that break it: each one is a file, behind the import of HEAD's names.
BREAKS = {
    "L2": ("from math import gcd\n", "from .errors import Wrong\n", "from pack.errors import *\n",
        "from pack.errors import Wrong as Bad\n", "LIMIT = 3\nfrom pack.errors import Wrong\n",
        inner("from pack.errors import Wrong", "return Wrong")),
    "L3": ("print(3)\n", "ROWS = [k for k in (1, 2)]\n", "ROWS = list((1, 2))\n", "if True:\n    K = 3\n",
        "A = B = 3\n", inner("return k[0](xs)"), "for k in (1, 2):\n    pass\n"),
    "L4": ("def told(k, /):\n    return k\n", "def told(*k):\n    return k\n", "def told(k=[]):\n    return k\n",
        "def told(**k):\n    return k\n", inner("def more(z):", "    return z", "return more(k)")),
    "L5": ("class Box(dict):\n    pass\n", "class Box:\n    LIMIT = xs()\n",
        "class Box:\n    def __hash__(self):\n        return 3\n", "class Box(object):\n    pass\n"),
    "L6": (inner("global k"), "async def told():\n    return 3\n", inner("k == 3"),
        inner("try:", "    k = 3", "finally:", "    xs.clear()"), inner("xs[1:] += [3]")),
    "L7": (inner("return k / 2"), inner("return 0.5"), inner("return 1j"), inner("return [*xs]"),
        inner("return (y for y in xs)"), inner("return b'a'"), inner("return f'{k:>{xs}}'"),
        inner("return [1, 2][k]")),
    "L8": (inner("return hex(k)"), inner("return map(len, xs)"), inner("print(k)"), inner("return missing"),
        inner("return open(k)"), inner("return chr(k)"), inner("return pow(k, 2, 3)")),
    "L10": (inner(*["k = 3"] * 40), "# " + "x" * 119 + "\n", "\n" * 401),
    "L11": (inner("return told(xs, k - 1)"),
        "def one(k):\n    return two(k)\n\n\ndef two(k):\n    return one(k)\n"),
    "L12": ("def _told():\n    return 3\n", inner("_ = 3"), "def told(_k):\n    return 3\n"),
    "L13": (inner("return (lambda z: z, lambda z: -z)"),),
    "L14": ("# \u00e4\n", inner("return k\t+ 1"), "K = '\u2014'\n"),
    "L15": ("K = 3\nK = 4\n", inner("min = 3"), inner("Wrong = 3"), "def told(id):\n    return id\n",
        "def doubled(k):\n    return k\n", "ROWS = {}\n\n\ndef told(k):\n    ROWS[k] = 3\n",
        "ROWS = [1]\n\n\ndef told(k):\n    ROWS.append(k)\n", "ROWS = [1]\n\n\ndef told():\n    return ROWS\n",
        inner("class Box:", "    pass"), inner("for sum in xs:", "    pass")),
    "L16": ("import sys\n", "import pack.errors\n", "from pack.errors import missing\n"),
    "L17": ("# its type\n", "def register():\n    return 3\n", inner("f_back = 3"), "K = 'enum'\n",
        "class Box:\n    def mro(self):\n        return 3\n", "# a dataclasses thing\n"),
    "L18": (inner("return Wrong"), inner("return [Wrong]"), inner("return k.missing"),
        "class Box:\n    def number(self):\n        return 3\n", inner("Wrong.worth = 3"),
        "class Box:\n    def one(self):\n        return 3\n\n    def one(self):\n        return 4\n"),
    "L19": (inner("raise ValueError('x')"), inner("raise k"), inner("raise Wrong"), inner("raise"),
        inner("try:", "    return xs[k]", "except ValueError:", "    return 3"),
        inner("try:", "    return xs[k]", "except:", "    return 3"),
        inner("try:", "    return xs[k]", "except Exception:", "    return 3")),
    "L20": (inner("return k is 3"), inner("return k is xs"), inner("return k is not 'a'")),
    "L21": ("def told(k: int):\n    return k\n", "def told(k) -> int:\n    return k\n", "K: int = 3\n"),
    "L22": (inner("return isinstance(k, set)"), inner("return len"), inner("return sorted(xs, key=k)"),
        inner("return sorted(xs, reverse=k)"), inner("return doubled()"), inner("return doubled(1, 2, 3)"),
        inner("return doubled(1, many=3)"), inner("return len(xs, k)"), inner("xs.append()"),
        inner("raise Wrong(text='x')"), inner("raise WrongNumber()"), inner("return int(k, base=10)"),
        inner("return max(k, 3, default=0)"), "class Box:\n    pass\n\n\ndef told(k):\n    return Box(k)\n"),
    "L23": (inner("return zip(xs, k)"), inner("pairs = enumerate(xs)", "return pairs"), inner("yield k"),
        inner("for x in xs:", "    xs.append(x)"), inner("for x in xs:", "    xs[0] = x"),
        inner("for at, x in enumerate(xs):", "    xs.pop()"), inner("for x in k.items():", "    k.update(x)"),
        inner("return reversed(xs)"), inner("return k.items()"), inner("for xs[0] in k:", "    pass")),
    "L24": (inner("return {1, k}"), inner("return {x for x in xs}")),
    "L25": (inner("return k.format(3)"), inner("return xs.union(k)"), inner("return k.encode()")),
    "L26": ("class Box:\n    def decode(self):\n        return 3\n", inner("k.items = 3"), inner("k.sort = 3")),
    "L27": (inner("return 2 ** k"), "K = '%'\n", "K = '\\x41'\n", "K = 'a._'\n", inner("return 1if k else 2"),
        inner("return f'{xs[\"a\"]}'"), inner("return 2 ** 65"), "K = 1" + "0" * 900 + "\n"),
    "L28": ("class Box:\n    def __init__(self):\n        return None\n", inner("return k.__init__(3)"),
        inner("return k.__class__")),
}
IMPORT = "from pack.errors import Wrong, WrongNumber, doubled\n\n"


def package(text, path="pack/more.py"):
    return {"pack/__init__.py": '"""A package."""\n', "pack/errors.py": HEAD, path: text}


def rules_broken(sources):
    return {rule for rule, path, line, words in faults(sources)}


class Program(unittest.TestCase):
    def sources(self):
        return {str(path.relative_to(ROOT)): path.read_text(encoding="utf-8") for path in PACKAGE.rglob("*.py")}

    def test_the_folder_holds_modules_only(self):
        for path in PACKAGE.rglob("*"):
            if "__pycache__" not in path.parts:
                self.assertFalse(path.is_symlink(), path)
                self.assertTrue(path.is_dir() or path.suffix == ".py", path)

    def test_no_rule_is_broken(self):
        self.assertEqual(faults(self.sources()), [])

    def test_all_modules_are_looked_at(self):
        self.assertLessEqual({f"timesrow/{name}.py" for name in MODULES}, set(self.sources()))


class Breaks(unittest.TestCase):
    def test_plain_things_break_nothing(self):
        self.assertEqual(faults(package(GOOD)), [])
        self.assertEqual(faults(package('"""Nothing."""\n')), [])
        self.assertEqual(faults(package("")), [])

    def test_each_break_is_found(self):
        for rule, text in [(rule, text) for rule in BREAKS for text in BREAKS[rule]]:
            with self.subTest(rule=rule, text=text):
                # Where the text itself begins with imports or is about them, the names are its own matter.
                head = "" if text.startswith(("import", "from")) else IMPORT
                self.assertIn(rule, rules_broken(package(head + text)))

    def test_texts_around_the_breaks_break_nothing(self):
        for row in ("return doubled(k) + doubled(number=k)", "return k // 2", "raise Wrong('x')", "return 2 ** 64",
                    "return [x for x in xs if x is not None]", "return sorted(xs, key=len, reverse=True)",
                    "return list(zip(xs, k))", "return k is True", "return tuple(reversed(xs))"):
            with self.subTest(row=row):
                self.assertEqual(faults(package(IMPORT + inner(row))), [])

    def test_names_of_files(self):
        for path in ("pack/More.py", "pack/mo-re.py", "pack/more.txt"):
            self.assertIn("L1", rules_broken(package("", path)), path)
        for path in ("pack/sum.py", "pack/tests.py", "pack/test_more.py", "pack/law_one.py", "pack/enum.py",
                     "pack/below/more.py", "pack/errors/__init__.py"):
            self.assertIn("L14", rules_broken(package("", path)), path)
        self.assertIn("L14", rules_broken({"queue/__init__.py": ""}))
        self.assertEqual(faults({**package("", "pack/below/more.py"), "pack/below/__init__.py": ""}), [])

    def test_too_many_files(self):
        self.assertIn("L14", rules_broken({**package(""), **{f"pack/more{place}.py": "" for place in range(100)}}))

    def test_imports_that_lead_back(self):
        one = "from pack.two import second\n\n\ndef first():\n    return second()\n"
        two = "from pack.one import first\n\n\ndef second():\n    return first\n"
        self.assertIn("L16", rules_broken({"pack/__init__.py": "", "pack/one.py": one, "pack/two.py": two}))

    def test_what_an_init_file_binds(self):
        self.assertIn("L16", rules_broken({"pack/__init__.py": "K = 3\n"}))


if __name__ == "__main__":
    unittest.main()
