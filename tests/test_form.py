import pathlib
import unittest

from form_rules import faults_of

PACKAGE = pathlib.Path(__file__).resolve().parent.parent / "fewrooms"

OUTSIDE = (
    ("L2", "from os import path\n"),
    ("L3", "for k in (1, 2):\n    pass\n"),
    ("L4", "def f(*xs):\n    return xs\n"),
    ("L5", "class A:\n    x = 1\n"),
    ("L6", "def f(x):\n    a = b = x\n    return a + b\n"),
    ("L6", "def f(xs):\n    for x in xs:\n        pass\n    else:\n        return 1\n    return 2\n"),
    ("L7", "def f(x):\n    return x / 2\n"),
    ("L7", "def f(xs):\n    return [a + b for a in xs for b in xs]\n"),
    ("L7", "def f(xs):\n    return {x: 1 for x in xs}\n"),
    ("L8", "def f(xs):\n    return iter(xs)\n"),
    ("L10", "def f(x):\n" + "    x = x + 1\n" * 40 + "    return x\n"),
    ("L10", "# " + "a" * 120 + "\n"),
    ("L12", "def f(x):\n    _y = x\n    return _y\n"),
    ("L14", "# \u00e9\n"),
    ("L15", "def f(min):\n    return min\n"),
    ("L15", "A = 1\nA = 2\n"),
    ("L16", "from fewrooms.one import f\n\n\ndef g(x):\n    return f(x)\n"),
    ("L16", "import fewrooms\n"),
    ("L17", "# which type it is\n"),
    ("L18", "class A:\n    pass\n\n\ndef f():\n    return [A]\n"),
    ("L19", "def f(x):\n    try:\n        return x[0]\n    except Exception:\n        return None\n"),
    ("L20", "def f(x, y):\n    return x is y\n"),
    ("L21", "def f(x: int):\n    return x\n"),
    ("L22", "def f(xs):\n    g = len\n    return g(xs)\n"),
    ("L23", "def f(n):\n    xs = range(n)\n    return xs\n"),
    ("L23", "def f(xs):\n    for x in xs:\n        xs.append(x)\n"),
    ("L24", "def f(xs):\n    ys = set(xs)\n    return ys\n"),
    ("L25", "def f(x):\n    return x.swapcase()\n"),
    ("L27", "def f(n):\n    return 2 ** n\n"),
    ("L28", "class A:\n    def __init__(self):\n        return None\n"),
)


class TestForm(unittest.TestCase):
    def test_the_package_keeps_to_the_language(self):
        sources = {path.name: path.read_text(encoding="utf-8") for path in PACKAGE.glob("*.py")}
        self.assertIn("__init__.py", sources)
        self.assertEqual(faults_of(sources), [])

    def test_nothing_else_lies_in_the_package(self):
        others = [path.name for path in PACKAGE.iterdir() if path.suffix != ".py" and path.name != "__pycache__"]
        self.assertEqual(others, [])

    def test_what_lies_outside_is_seen(self):
        for rule, text in OUTSIDE:
            found = [fault[0] for fault in faults_of({"one.py": text})]
            self.assertIn(rule, found, text)


if __name__ == "__main__":
    unittest.main()
