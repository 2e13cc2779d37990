"""The examples of the document's interface, as they are printed there, and those of README.md."""

import doctest
import unittest
from pathlib import Path

GAMES = """
>>> from worthshares.games import added, dividends, groups, people, turned, worth
>>> glove = (0, 0, 0, 0, 1, 1, 1)
>>> [groups(3)[3:], people(glove), worth(glove, (0, 2)), worth(glove, ())]
[((0, 1), (0, 2), (1, 2), (0, 1, 2)), 3, 1, 0]
>>> [turned(glove), added(glove, 2), dividends(glove)]
[(0, 0, 1, 1, 1, 1, 1), (0, 1, 1, 1), (0, 0, 0, 0, 1, 1, -1)]
>>> worth(glove, (2, 0))
raises BadGroup
"""

RULES = """
>>> from worthshares.rules import names, shares, told_rule
>>> glove, three = (0, 0, 0, 0, 1, 1, 1), (0, 0, 0, 60, 60, 60, 90)
>>> [shares(told_rule(name, 3), glove) for name in ("shapley", "banzhaf", "last")]
[((1, 6), (1, 6), (2, 3)), ((1, 4), (1, 4), (3, 4)), ((0, 1), (0, 1), (1, 1))]
>>> [shares(told_rule(name, 3), three) for name in ("even", "in turn", "rest even")]
[((30, 1), (30, 1), (30, 1)), ((0, 1), (60, 1), (30, 1)), ((30, 1), (30, 1), (30, 1))]
>>> [told_rule("even", 2), len(names())]
[(((0, 1), (0, 1), (1, 2)), ((0, 1), (0, 1), (1, 2))), 8]
>>> shares(told_rule("own", 2), glove)
raises NotAlike
"""

AXIOMS = """
>>> from worthshares.axioms import axioms, breaking_game, breaks, keeps, profile
>>> even = (((0, 1), (0, 1), (1, 2)), ((0, 1), (0, 1), (1, 2)))
>>> [len(axioms()), profile(even), breaks(even, "idle", (0, 4, 4)), breaks(even, "idle", (4, 4, 4)), breaking_game(even, "whole")]
[11, ('alike', 'ends', 'equal', 'flat', 'last', 'turned', 'whole', 'zero'), True, False, None]
>>> [keeps(even, "own"), breaks(even, "own", breaking_game(even, "own"))]
[False, True]
>>> keeps(even, "fair")
raises BadAxiom
"""

SPACES = """
>>> from worthshares.spaces import can_hold, forces, freedom, only_rule, some_rule, steps
>>> [freedom(3, ()), freedom(3, ("whole",)), freedom(3, ("alike",)), freedom(3, ("equal", "idle", "whole")), freedom(3, ("own", "whole", "zero"))]
[21, 14, 5, 0, None]
>>> [only_rule(2, ("equal", "idle", "whole")), only_rule(2, ("ends", "own"))]
[(((1, 2), (-1, 2), (1, 2)), ((-1, 2), (1, 2), (1, 2))), (((1, 1), (0, 1), (0, 1)), ((0, 1), (1, 1), (0, 1)))]
>>> [forces(2, ("alike", "plain", "whole")), forces(3, ("alike", "plain", "whole")), can_hold(2, ("flat", "own")), some_rule(2, ("flat", "own")), len(steps(2, ("alike", "whole")))]
[True, False, False, None, 1]
>>> only_rule(3, ("whole",))
raises NotOne
"""

MAPS = """
>>> from worthshares.maps import clashes, forcings, least_clashes, least_forcing
>>> [len(least_clashes(3)), [len(least_forcing(many)) for many in (2, 3, 4)], least_clashes(2)[:2]]
[22, [29, 26, 24], (('flat', 'own'), ('flat', 'plain'))]
>>> [clashes(3, ("equal", "idle", "whole", "zero")), forcings(3, ("equal", "idle", "whole", "zero")), forcings(4, ("alike", "plain", "turned", "whole"))]
[(('idle', 'whole', 'zero'),), (('equal', 'idle', 'whole'), ('equal', 'whole', 'zero')), ()]
>>> clashes(5, ())
raises BadMany
"""

TEXTS = """
>>> from worthshares.texts import read_game, write_game
>>> [write_game((0, -5, 12)), read_game("1 2 3")]
['0 -5 12', (1, 2, 3)]
>>> read_game("1 02 3")
raises InvalidText
"""

DESKS = """
>>> from worthshares.desks import Desk
>>> desk = Desk(3)
>>> [desk.run(line) for line in ("0+2 1", "1+2 1", "0+1+2 1", "shapley", "0+2", "even")]
[None, None, None, '1/6 1/6 2/3', '1', '1/3 1/3 1/3']
>>> [desk.undo(), desk.game]
[None, (0, 0, 0, 0, 1, 1, 0)]
>>> desk.run("2+0 1")
raises InvalidText
"""


def outcome(line, known):
    """What a printed line gives: its result as text, or the name of its error."""
    try:
        return repr(eval(line, known))
    except ValueError as error:
        return "raises " + type(error).__name__


class Examples(unittest.TestCase):
    def check(self, text, results):
        known, compared = {}, 0
        lines = text.strip().split("\n")
        for at, line in enumerate(lines):
            if not line.startswith(">>> "):
                continue
            if at + 1 == len(lines) or lines[at + 1].startswith(">>> "):
                exec(line[4:], known)
            else:
                self.assertEqual(outcome(line[4:], known), lines[at + 1])
                compared += 1
        self.assertEqual(compared, results)

    def test_games(self):
        self.check(GAMES, 3)

    def test_rules(self):
        self.check(RULES, 4)

    def test_axioms(self):
        self.check(AXIOMS, 3)

    def test_spaces(self):
        self.check(SPACES, 4)

    def test_maps(self):
        self.check(MAPS, 3)

    def test_texts(self):
        self.check(TEXTS, 2)

    def test_desks(self):
        self.check(DESKS, 3)

    def test_readme(self):
        text = (Path(__file__).parent.parent / "README.md").read_text(encoding="ascii")
        example = doctest.DocTestParser().get_doctest(text.split("```")[1], {}, "README.md", None, 0)
        results = doctest.DocTestRunner().run(example)
        self.assertEqual(results.failed, 0)
        self.assertGreater(results.attempted, 10)


if __name__ == "__main__":
    unittest.main()
