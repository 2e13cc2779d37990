"""Point 12: the class Desk."""

import unittest

import reference
from worthshares.desks import Desk
from worthshares.errors import BadMany, InvalidText, NothingToUndo, NotText
from worthshares.games import groups, worth
from worthshares.rules import names, shares, told_rule
from worthshares.texts import read_game, write_game
from wrong import NOT_MANY, NOT_TEXT, NOT_WORTHS, expect


def group_line(group):
    return "+".join(map(str, group))


def filled(game):
    """A desk at which lines have made a game."""
    desk = Desk({3: 2, 7: 3, 15: 4}[len(game)])
    for group, value in zip(groups({3: 2, 7: 3, 15: 4}[len(game)]), game):
        assert desk.run(f"{group_line(group)} {value}") is None
    return desk


class Start(unittest.TestCase):
    def test_all_worths_are_0(self):
        for many, items in ((2, 3), (3, 7), (4, 15)):
            self.assertEqual(Desk(many).game, (0,) * items)

    def test_bad_many(self):
        for many in NOT_MANY:
            expect(self, BadMany, Desk, many)

    def test_desks_are_apart(self):
        one, other = Desk(2), Desk(2)
        one.run("0 5")
        self.assertEqual((one.game, other.game), ((5, 0, 0), (0, 0, 0)))
        expect(self, NothingToUndo, other.undo)

    def test_game_cannot_be_set(self):
        with self.assertRaises(AttributeError):
            Desk(2).game = (1, 2, 3)


class Worths(unittest.TestCase):
    def test_each_group(self):
        for many in (2, 3, 4):
            desk = Desk(many)
            wanted = [0] * (2 ** many - 1)
            for at, group in enumerate(groups(many)):
                line = group_line(group)
                self.assertEqual(desk.run(line), "0")
                self.assertIsNone(desk.run(f"{line} {7 - 3 * at}"))
                wanted[at] = 7 - 3 * at
                self.assertEqual(desk.game, tuple(wanted))
                self.assertEqual(desk.run(line), str(7 - 3 * at))

    def test_worths_at_the_limits(self):
        desk = Desk(2)
        for value in (-1000, 1000, 0, -1, 999):
            self.assertIsNone(desk.run(f"0+1 {value}"))
            self.assertEqual((desk.game, desk.run("0+1")), ((0, 0, value), str(value)))

    def test_kinds(self):
        desk = filled((1, -2, 3))
        self.assertIs(type(desk.game), tuple)
        self.assertEqual([type(value) for value in desk.game], [int] * 3)
        self.assertEqual((desk.run("1"), write_game(desk.game)), ("-2", "1 -2 3"))

    def test_games_of_lines(self):
        for many in (2, 3, 4):
            game = reference.some_game(many, many, 1000)
            desk = filled(game)
            self.assertEqual(desk.game, game)
            for group in groups(many):
                self.assertEqual(desk.run(group_line(group)), str(worth(game, group)))

    def test_a_game_taken_before_stays(self):
        desk = Desk(2)
        before = desk.game
        desk.run("0 4")
        self.assertEqual((before, desk.game), ((0, 0, 0), (4, 0, 0)))


class Shares(unittest.TestCase):
    def test_told(self):
        desk = filled((0, 0, 0, 0, 1, 1, 1))
        wanted = {
            "shapley": "1/6 1/6 2/3", "banzhaf": "1/4 1/4 3/4", "last": "0 0 1", "even": "1/3 1/3 1/3",
            "own": "0 0 0", "rest even": "1/3 1/3 1/3", "in turn": "0 0 1", "last even": "0 0 1",
        }
        self.assertEqual({name: desk.run(name) for name in names()}, wanted)

    def test_signs(self):
        desk = filled((0, 0, -3))
        self.assertEqual([desk.run(name) for name in ("even", "in turn", "own")], ["-3/2 -3/2", "0 -3", "0 0"])

    def test_all_rules(self):
        for many in (2, 3, 4):
            for seed in range(8):
                game = reference.some_game(seed, many, 1000)
                desk = filled(game)
                for name in names():
                    found = shares(told_rule(name, many), game)
                    words = [str(n) if d == 1 else f"{n}/{d}" for n, d in found]
                    self.assertEqual(desk.run(name), " ".join(words), (name, game))
                self.assertEqual(desk.game, game)


class Undo(unittest.TestCase):
    def test_nothing(self):
        desk = Desk(3)
        expect(self, NothingToUndo, desk.undo)
        desk.run("shapley")
        desk.run("0+1")
        expect(self, InvalidText, desk.run, "1+0 3")
        expect(self, NotText, desk.run, None)
        expect(self, NothingToUndo, desk.undo)
        self.assertEqual(desk.game, (0,) * 7)

    def test_line_by_line(self):
        desk = Desk(2)
        games = [desk.game]
        for line in ("0 5", "0+1 8", "0 -5", "1 1000", "0 5", "0 5", "0 0"):
            desk.run(line)
            games.append(desk.game)
        while len(games) > 1:
            self.assertEqual(desk.game, games.pop())
            self.assertIsNone(desk.undo())
        self.assertEqual(desk.game, (0, 0, 0))
        expect(self, NothingToUndo, desk.undo)

    def test_a_line_that_sets_the_same_worth(self):
        desk = filled((5, 0, 0))
        desk.undo()
        desk.undo()
        self.assertEqual(desk.game, (5, 0, 0))
        desk.run("0 5")
        desk.undo()
        self.assertEqual(desk.game, (5, 0, 0))
        desk.undo()
        self.assertEqual(desk.game, (0, 0, 0))
        expect(self, NothingToUndo, desk.undo)

    def test_answers_and_errors_are_not_taken_back(self):
        desk = Desk(2)
        desk.run("1 3")
        desk.run("0 4")
        for line in ("0", "even", "1", "last even"):
            desk.run(line)
        expect(self, InvalidText, desk.run, "0 1001")
        desk.undo()
        self.assertEqual(desk.game, (0, 3, 0))

    def test_on_after_undo(self):
        desk = Desk(2)
        desk.run("0 1")
        desk.undo()
        expect(self, NothingToUndo, desk.undo)
        desk.run("1 2")
        self.assertEqual(desk.game, (0, 2, 0))
        desk.undo()
        self.assertEqual(desk.game, (0, 0, 0))


class Wrong(unittest.TestCase):
    def refused(self, many, line):
        """The error is raised, and neither the game nor what can be undone has changed."""
        desk = Desk(many)
        desk.run("0 7")
        desk.run("0+1 9")
        game = desk.game
        expect(self, InvalidText, desk.run, line)
        self.assertEqual(desk.game, game)
        desk.undo()
        desk.undo()
        self.assertEqual(desk.game, (0,) * len(game))
        expect(self, NothingToUndo, desk.undo)

    def test_lines(self):
        for line in (
            "", " ", "0 ", " 0", "0  1", "0 1 ", " 0 1", "0\t1", "0 1\n", "0\n", "0 1 2", "0+1 2 3", "+", "+0", "0+",
            "0++1", "0 + 1", "0+ 1", "0+1+", "1+0", "1+0 3", "0+0", "0+0 3", "0+1+1", "00", "00 1", "-0", "-0 1",
            "01 1", "0,1 1", "(0, 1) 1", "0-1 1", "+1", "0+-1", "() 3", " 3", "none", "3+4 1", "5", "4", "4 1", "9 0",
            "0+4", "0+4 1", "1\u0661", "\u0660 1", "\u0660", "Shapley", "shapley ", " shapley", "shapley 1", "in  turn",
            "inturn", "in turn ", "even even", "even 1", "0 even", "0+1 shapley", "last\neven", "nothing", "undo",
            "game", "0=1", "0: 1", "0 1;1 2", "0 1\n1 2", "0 1/2", "0 1.0", "0/1",
        ):
            for many in (2, 3, 4):
                self.refused(many, line)

    def test_people_who_are_not_there(self):
        for many, line in ((2, "2"), (2, "2 1"), (2, "0+2"), (2, "0+2 1"), (3, "3 1"), (3, "0+1+2+3 1"), (3, "2+3")):
            self.refused(many, line)

    def test_wrong_worths(self):
        for word in NOT_WORTHS:
            for line in ("0 " + word, "0+1 " + word):
                # A group with an empty text behind a blank is no line either.
                self.refused(2, line)

    def test_no_text(self):
        for value in NOT_TEXT:
            desk = filled((1, 2, 3))
            expect(self, NotText, desk.run, value)
            self.assertEqual(desk.game, (1, 2, 3))
            desk.undo()
            self.assertEqual(desk.game, (1, 2, 0))

    def test_texts_of_games_go_there_and_back(self):
        desk = filled((-1000, 0, 1000))
        self.assertEqual(read_game(write_game(desk.game)), desk.game)


if __name__ == "__main__":
    unittest.main()
