"""The examples of the document's interface, as they are printed there."""

import unittest

GAMES = """
>>> from worthshares.games import added, dividends, groups, people, turned, worth
>>> glove = (0, 0, 0, 0, 1, 1, 1)
>>> [groups(3)[3:], people(glove), worth(glove, (0, 2)), worth(glove, ())]
[((0, 1), (0, 2), (1, 2), (0, 1, 2)), 3, 1, 0]
>>> [turned(glove), added(glove, 2), dividends(glove)]
[(0, 0, 1, 1, 1, 1, 1), (0, 1, 1, 1), (0, 0, 0, 0, 1, 1, -1)]
>>> worth(glove, (2, 0))
raises BadGroup
"""

RULES = """
>>> from worthshares.rules import names, shares, told_rule
>>> glove, three = (0, 0, 0, 0, 1, 1, 1), (0, 0, 0, 60, 60, 60, 90)
>>> [shares(told_rule(name, 3), glove) for name in ("shapley", "banzhaf", "last")]
[((1, 6), (1, 6), (2, 3)), ((1, 4), (1, 4), (3, 4)), ((0, 1), (0, 1), (1, 1))]
>>> [shares(told_rule(name, 3), three) for name in ("even", "in turn", "rest even")]
[((30, 1), (30, 1), (30, 1)), ((0, 1), (60, 1), (30, 1)), ((30, 1), (30, 1), (30, 1))]
>>> [told_rule("even", 2), len(names())]
[(((0, 1), (0, 1), (1, 2)), ((0, 1), (0, 1), (1, 2))), 8]
>>> shares(told_rule("own", 2), glove)
raises NotAlike
"""

AXIOMS = """
>>> from worthshares.axioms import axioms, breaking_game, breaks, keeps, profile
>>> even = (((0, 1), (0, 1), (1, 2)), ((0, 1), (0, 1), (1, 2)))
>>> [len(axioms()), profile(even), breaks(even, "idle", (0, 4, 4)), breaks(even, "idle", (4, 4, 4)), breaking_game(even, "whole")]
[11, ('alike', 'ends', 'equal', 'flat', 'last', 'turned', 'whole', 'zero'), True, False, None]
>>> [keeps(even, "own"), breaks(even, "own", breaking_game(even, "own"))]
[False, True]
>>> keeps(even, "fair")
raises BadAxiom
"""


def outcome(line, known):
    """What a printed line gives: its result as text, or the name of its error."""
    try:
        return repr(eval(line, known))
    except ValueError as error:
        return "raises " + type(error).__name__


class Examples(unittest.TestCase):
    def check(self, text, results):
        known, compared = {}, 0
        lines = text.strip().split("\n")
        for at, line in enumerate(lines):
            if not line.startswith(">>> "):
                continue
            if at + 1 == len(lines) or lines[at + 1].startswith(">>> "):
                exec(line[4:], known)
            else:
                self.assertEqual(outcome(line[4:], known), lines[at + 1])
                compared += 1
        self.assertEqual(compared, results)

    def test_games(self):
        self.check(GAMES, 3)

    def test_rules(self):
        self.check(RULES, 4)

    def test_axioms(self):
        self.check(AXIOMS, 3)


if __name__ == "__main__":
    unittest.main()
