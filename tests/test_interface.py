"""The interface: where each name is defined, and what its parameters are."""

import ast
import inspect
import unittest
from importlib import import_module
from pathlib import Path

import worthshares
from worthshares.desks import Desk

FUNCTIONS = {
    "games": {
        "groups": ["many"], "turned": ["game"], "added": ["game", "person"], "dividends": ["game"],
        "people": ["game"], "worth": ["game", "group"],
    },
    "rules": {"shares": ["rule", "game"], "names": [], "told_rule": ["name", "many"]},
    "axioms": {
        "axioms": [], "profile": ["rule"], "breaks": ["rule", "axiom", "game"], "keeps": ["rule", "axiom"],
        "breaking_game": ["rule", "axiom"],
    },
    "spaces": {
        "freedom": ["many", "wanted"], "can_hold": ["many", "wanted"], "forces": ["many", "wanted"],
        "some_rule": ["many", "wanted"], "only_rule": ["many", "wanted"], "steps": ["many", "wanted"],
    },
    "maps": {
        "least_clashes": ["many"], "least_forcing": ["many"], "clashes": ["many", "wanted"],
        "forcings": ["many", "wanted"],
    },
    "texts": {"write_game": ["game"], "read_game": ["text"]},
}
FOLDER = Path(worthshares.__file__).parent


class Interface(unittest.TestCase):
    def test_functions(self):
        for module, wanted in FUNCTIONS.items():
            for name, parameters in wanted.items():
                function = getattr(import_module("worthshares." + module), name)
                self.assertEqual(function.__module__, "worthshares." + module, name)
                self.assertEqual(list(inspect.signature(function).parameters), parameters, name)

    def test_desk(self):
        own = vars(Desk)
        self.assertEqual(Desk.__module__, "worthshares.desks")
        self.assertEqual(list(inspect.signature(Desk).parameters), ["many"])
        self.assertEqual(list(inspect.signature(own["run"]).parameters), ["self", "line"])
        self.assertEqual(list(inspect.signature(own["undo"]).parameters), ["self"])
        self.assertIsInstance(own["game"], property)


class Language(unittest.TestCase):
    """The sizes, signs and imports that the language of the package allows."""

    def test_files(self):
        for file in sorted(FOLDER.glob("*.py")):
            text = file.read_text(encoding="ascii")
            lines = text.split("\n")
            self.assertLessEqual(len(lines), 399, file.name)
            self.assertLessEqual(max(map(len, lines)), 120, file.name)
            self.assertNotIn("\t", text, file.name)
            for node in ast.walk(ast.parse(text)):
                self.check_node(node, file.name)

    def check_node(self, node, name):
        if isinstance(node, ast.FunctionDef):
            self.assertLessEqual(node.end_lineno - node.lineno + 1, 40, (name, node.name))
        if isinstance(node, ast.ImportFrom):
            outside = node.module if not node.module.startswith("worthshares.") else "math"
            self.assertIn(outside, ("math", "itertools"), name)
        self.assertNotIsInstance(node, (ast.Import, ast.Div, ast.GeneratorExp, ast.Global), name)
        if isinstance(node, ast.Constant):
            self.assertNotIsInstance(node.value, (float, complex), name)


if __name__ == "__main__":
    unittest.main()
