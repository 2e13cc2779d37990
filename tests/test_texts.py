"""Point 11: write_game, read_game."""

import unittest

from reference import some_game
from worthshares.errors import InvalidText, NotText
from worthshares.texts import read_game, write_game
from wrong import NOT_TEXT, NOT_WORTHS, bad_games, expect, expect_bad_game


class Write(unittest.TestCase):
    def test_told(self):
        self.assertEqual(write_game((0, -5, 12)), "0 -5 12")
        self.assertEqual(write_game((0,) * 7), "0 0 0 0 0 0 0")
        self.assertEqual(write_game((-1000, 1000, 0)), "-1000 1000 0")
        self.assertEqual(write_game((1000,) * 15), " ".join(["1000"] * 15))

    def test_bad_games(self):
        for game, index in bad_games():
            expect_bad_game(self, index, write_game, game)


class Read(unittest.TestCase):
    def test_told(self):
        self.assertEqual(read_game("1 2 3"), (1, 2, 3))
        self.assertEqual(read_game("-1000 0 1000"), (-1000, 0, 1000))
        self.assertEqual(read_game("0 0 0 0 -1 1 10"), (0, 0, 0, 0, -1, 1, 10))
        self.assertEqual(read_game(" ".join(["-999"] * 15)), (-999,) * 15)

    def test_kinds(self):
        game = read_game("1 0 3")
        self.assertIs(type(game), tuple)
        self.assertEqual([type(value) for value in game], [int] * 3)

    def test_what_is_written_is_read(self):
        for many in (2, 3, 4):
            for seed in range(40):
                game = some_game(seed, many, 1000)
                text = write_game(game)
                self.assertEqual(text, " ".join(map(str, game)))
                self.assertEqual(read_game(text), game)

    def test_each_worth(self):
        for value in range(-1000, 1001):
            self.assertEqual(read_game(f"0 {value} 1"), (0, value, 1))

    def test_wrong_worths(self):
        for word in NOT_WORTHS:
            for size in (3, 7, 15):
                for at in (0, 1, size - 1):
                    words = ["5"] * size
                    words[at] = word
                    expect(self, InvalidText, read_game, " ".join(words))

    def test_wrong_numbers_of_worths(self):
        for size in range(40):
            if size not in (3, 7, 15):
                expect(self, InvalidText, read_game, " ".join(["1"] * size))

    def test_wrong_blanks(self):
        for text in (
            "", " ", "   ", "abc", "1 2 3 ", " 1 2 3", "1  2 3", "1 2  3", "1\t2 3", "1 2\n3", "1 2 3\n", "\n1 2 3",
            "1,2,3", "1, 2, 3", "(1, 2, 3)", "1 2 3 4", "1 2", "1\u00a02 3", "1 2 3\0", "1 2 3\r", "1 2 3\u2003",
            "1 - 2", "- 1 2 3", "1 2 3.", "game",
        ):
            expect(self, InvalidText, read_game, text)

    def test_no_text(self):
        for value in NOT_TEXT:
            expect(self, NotText, read_game, value)


if __name__ == "__main__":
    unittest.main()
