"""Rules of the language of the program: where ranges and their like may stand, and how long things may be."""

import ast
import unittest
from pathlib import Path

PACKAGE = Path(__file__).parent.parent / "slotmaps"
MADE_BY = ("range", "zip", "enumerate", "reversed")
VIEWS = ("items", "keys", "values")
# The builtins whose first argument may be a range or its like.
ITERATING = ("list", "tuple", "dict", "sorted", "sum", "min", "max", "any", "all", "enumerate", "zip")


def kept_or_passed(tree):
    """Return the rows where a range, zip, enumerate, reversed or view is not iterated on the spot."""
    above = {child: node for node in ast.walk(tree) for child in ast.iter_child_nodes(node)}
    return [node.lineno for node in ast.walk(tree) if is_made(node) and not is_iterated(node, above[node])]


def is_made(node):
    """Return whether a node makes a range, zip, enumerate, reversed or view."""
    if not isinstance(node, ast.Call):
        return False
    if isinstance(node.func, ast.Attribute):
        return node.func.attr in VIEWS
    return isinstance(node.func, ast.Name) and node.func.id in MADE_BY


def is_iterated(node, above):
    """Return whether a node is iterated by the node above it."""
    if isinstance(above, (ast.For, ast.comprehension)):
        return above.iter is node
    if not isinstance(above, ast.Call) or not isinstance(above.func, ast.Name) or above.args[:1] != [node]:
        return False
    return above.func.id in ITERATING or (above.func.id == "reversed" and ast.unparse(node.func) == "range")


class LanguageTest(unittest.TestCase):
    def test_iterated_on_the_spot(self):
        for path in sorted(PACKAGE.glob("*.py")):
            with self.subTest(path.name):
                self.assertEqual(kept_or_passed(ast.parse(path.read_text())), [])

    def test_what_is_found(self):
        for text in (
            "f(range(3))",
            "f(1, zip(a, b))",
            "f(xs=d.items())",
            "a.f(enumerate(a))",
            "x = range(3)",
            "def f(d):\n    return d.values()",
            "list(reversed(d.items()))",
            "len(d.keys())",
            "list(zip(a, range(3)))",
        ):
            with self.subTest(text):
                self.assertEqual(len(kept_or_passed(ast.parse(text))), 1)
        for text in (
            "for k in range(3): f(k)",
            "[k for k, x in enumerate(a)]",
            "f(list(range(3)))",
            "[k for k in reversed(range(3))]",
            "for a, b in sorted(d.items()): f(a)",
            "min(d.values(), default=0)",
        ):
            with self.subTest(text):
                self.assertEqual(kept_or_passed(ast.parse(text)), [])

    def test_sizes(self):
        for path in sorted(PACKAGE.glob("*.py")):
            lines = path.read_text().split("\n")
            self.assertLess(len(lines), 400, path.name)
            self.assertLessEqual(max([len(line) for line in lines]), 120, path.name)
            for node in ast.walk(ast.parse("\n".join(lines))):
                if isinstance(node, ast.FunctionDef):
                    self.assertLessEqual(node.end_lineno - node.lineno, 39, (path.name, node.name))


if __name__ == "__main__":
    unittest.main()
