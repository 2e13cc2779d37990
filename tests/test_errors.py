"""Point 1: the errors and their fields."""

import unittest

from worthshares import errors

PLAIN = (
    "BadMany", "BadGroup", "BadPerson", "BadName", "BadAxiom", "BadAxioms",
    "NotAlike", "NotOne", "NotText", "InvalidText", "NothingToUndo",
)


class Errors(unittest.TestCase):
    def test_base(self):
        self.assertEqual(errors.ShareError.__bases__, (ValueError,))

    def test_all_are_direct_subclasses(self):
        for name in PLAIN + ("BadGame", "BadRule"):
            kind = getattr(errors, name)
            self.assertEqual(kind.__bases__, (errors.ShareError,), name)
            self.assertEqual(kind.__module__, "worthshares.errors", name)

    def test_there_are_no_others(self):
        found = {name for name in vars(errors) if not name.startswith("_")}
        self.assertEqual(found, set(PLAIN) | {"ShareError", "BadGame", "BadRule"})

    def test_plain_ones_have_no_fields(self):
        for name in PLAIN:
            self.assertEqual(vars(getattr(errors, name)()), {}, name)
            self.assertEqual(vars(getattr(errors, name)("a word")), {}, name)

    def test_fields_of_bad_game(self):
        for index in (None, 0, 14):
            self.assertEqual(vars(errors.BadGame(index)), {"index": index})

    def test_fields_of_bad_rule(self):
        for person, index in ((None, None), (3, None), (0, 14)):
            self.assertEqual(vars(errors.BadRule(person, index)), {"person": person, "index": index})


if __name__ == "__main__":
    unittest.main()
