import ast
import pathlib
import re
import unittest

from form import findings

PACKAGE = pathlib.Path(__file__).resolve().parent.parent / "layerdraw"

OUTSIDE = [
    ("L2", "from math import gcd\n"),
    ("L16", "import layerdraw\n"),
    ("L4", "def f(*given):\n    return given\n"),
    ("L5", "class A:\n    value = 1\n"),
    ("L6", "def f(x):\n    with x:\n        pass\n"),
    ("L6", "def f():\n    a = b = 1\n"),
    ("L7", "def f(x):\n    return x / 2\n"),
    ("L7", "def f(x):\n    return {y: 1 for y in x}\n"),
    ("L7", "def f():\n    return 0.5\n"),
    ("L8", "def f(x):\n    return hash(x)\n"),
    ("L10", "def f(x):\n" + "    x += 1\n" * 40),
    ("L10", "# " + "a" * 120 + "\n"),
    ("L12", "def f(x):\n    x._kept = 1\n"),
    ("L14", "# \u00e4\n"),
    ("L15", "def f(min):\n    return min\n"),
    ("L17", "# its type\n"),
    ("L20", "def f(x, y):\n    return x is y\n"),
    ("L25", "def f(x):\n    x.sort()\n"),
    ("L27", "def f(n):\n    return 2 ** n\n"),
]


def files():
    return sorted(PACKAGE.rglob("*.py"))


class FormTest(unittest.TestCase):
    def test_the_finder_finds(self):
        for rule, text in OUTSIDE:
            with self.subTest(rule=rule, text=text):
                self.assertTrue([row for row in findings(text) if rule in re.split("[ /]", row)])

    def test_the_package_keeps_to_the_form(self):
        self.assertTrue(files())
        for path in files():
            with self.subTest(path=path.name):
                self.assertEqual(findings(path.read_text(encoding="utf-8")), [])

    def test_the_folder_holds_plain_python_files_alone(self):
        self.assertTrue((PACKAGE / "__init__.py").exists())
        for path in PACKAGE.iterdir():
            if path.name != "__pycache__":
                self.assertRegex(path.name, r"\A(__init__|__main__|[a-z][a-z0-9_]*)\.py\Z")

    def test_no_name_is_a_method_here_and_a_value_there(self):
        methods, values = set(), set()
        for path in files():
            for node in ast.walk(ast.parse(path.read_text(encoding="utf-8"))):
                if isinstance(node, ast.ClassDef):
                    methods |= {child.name for child in node.body if isinstance(child, ast.FunctionDef)}
                if isinstance(node, ast.Attribute) and isinstance(node.ctx, ast.Store):
                    values.add(node.attr)
        self.assertEqual(sorted(methods & values), [])

    def test_no_two_files_draw_from_one_another(self):
        drawn = {}
        for path in files():
            rows = ast.walk(ast.parse(path.read_text(encoding="utf-8")))
            drawn["layerdraw." + path.stem] = [row.module for row in rows if isinstance(row, ast.ImportFrom)]
        while drawn:
            free = [name for name in drawn if not [other for other in drawn[name] if other in drawn]]
            self.assertTrue(free, "a ring of imports among " + ", ".join(sorted(drawn)))
            drawn = {name: rows for name, rows in drawn.items() if name not in free}


if __name__ == "__main__":
    unittest.main()
