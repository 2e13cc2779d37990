"""Points 2 and 3: groups, worths, and the games made of a game."""

import copy
import unittest
from itertools import combinations

import reference
from wrong import NOT_MANY, bad_games, expect, expect_bad_game
from worthshares.errors import BadGame, BadGroup, BadMany, BadPerson
from worthshares.games import added, dividends, groups, people, turned, worth

FOUR = tuple(range(1, 16))


class Groups(unittest.TestCase):
    def test_two_and_three(self):
        self.assertEqual(groups(2), ((0,), (1,), (0, 1)))
        self.assertEqual(groups(3), ((0,), (1,), (2,), (0, 1), (0, 2), (1, 2), (0, 1, 2)))

    def test_four(self):
        self.assertEqual(groups(4), (
            (0,), (1,), (2,), (3,), (0, 1), (0, 2), (0, 3), (1, 2), (1, 3), (2, 3),
            (0, 1, 2), (0, 1, 3), (0, 2, 3), (1, 2, 3), (0, 1, 2, 3),
        ))

    def test_bad_many(self):
        for many in NOT_MANY:
            expect(self, BadMany, groups, many)


class Worths(unittest.TestCase):
    def test_people(self):
        self.assertEqual([people((0,) * size) for size in (3, 7, 15)], [2, 3, 4])

    def test_worth_of_each_group(self):
        for game in ((5, -6, 7), (1, 2, 3, 4, 5, 6, 7), FOUR):
            found = [worth(game, group) for group in groups(people(game))]
            self.assertEqual(tuple(found), game)

    def test_nobody(self):
        for game in ((5, 6, 7), (5,) * 7, (-5,) * 15):
            self.assertEqual(worth(game, ()), 0)

    def test_limits(self):
        self.assertEqual(worth((-1000, 1000, 0), (0,)), -1000)
        self.assertEqual(worth((-1000, 1000, 0), (1,)), 1000)
        self.assertEqual(people((1000,) * 15), 4)
        self.assertEqual(people((-1000,) * 7), 3)

    def test_bad_game(self):
        for game, index in bad_games():
            expect_bad_game(self, index, people, game)
            expect_bad_game(self, index, worth, game, (0,))
            expect_bad_game(self, index, turned, game)
            expect_bad_game(self, index, added, game, 0)
            expect_bad_game(self, index, dividends, game)

    def test_bad_group(self):
        wrong = [(2, 0), (0, 0), (3,), (0, 3), (-1,), (-1, 0), [0], [], {}, None, 0, True, "0", "", (True,)]
        wrong += [(0, True), (False,), (False, 1), ("0",), (None,), ((0,),), ([],), (0, "1"), (0, None), (0, 1, 2, 3)]
        for group in wrong:
            expect(self, BadGroup, worth, (0,) * 7, group)
        expect(self, BadGroup, worth, (0,) * 3, (2,))
        expect(self, BadGroup, worth, (0,) * 15, (4,))

    def test_game_before_group(self):
        expect_bad_game(self, 1, worth, (0, 1001, 0), (1, 0))


class Turned(unittest.TestCase):
    def test_by_hand(self):
        self.assertEqual(turned((1, 2, 10)), (8, 9, 10))
        self.assertEqual(turned((1, 2, 3, 10, 20, 30, 100)), (70, 80, 90, 97, 98, 99, 100))
        self.assertEqual(turned(FOUR), (1, 2, 3, 4, 5, 6, 7, 8, 9, 10, 11, 12, 13, 14, 15))

    def test_beyond_the_limits(self):
        self.assertEqual(turned((1000, -1000, 1000)), (2000, 0, 1000))
        self.assertEqual(turned((1000, 999, -1000)), (-1999, -2000, -1000))
        self.assertEqual(turned((1000,) * 14 + (-1000,)), (-2000,) * 14 + (-1000,))

    def test_turned_again(self):
        expect_bad_game(self, 0, turned, turned((1000, -1000, 1000)))
        for seed in range(20):
            game = reference.some_game(seed, 2 + seed % 3, 400)
            self.assertEqual(turned(turned(game)), game)


class Added(unittest.TestCase):
    def test_by_hand(self):
        self.assertEqual(added((1, 2, 10), 0), (1, 8))
        self.assertEqual(added((1, 2, 10), 1), (2, 9))
        self.assertEqual(added((1, 2, 4, 8, 16, 32, 64), 1), (2, 7, 28, 48))
        self.assertEqual(added((1, 2, 4, 8, 16, 32, 64), 0), (1, 6, 12, 32))

    def test_four(self):
        for person in range(4):
            rest = [other for other in range(4) if other != person]
            without = [()] + [part for size in (1, 2, 3) for part in combinations(rest, size)]
            expected = [worth(FOUR, tuple(sorted(part + (person,)))) - worth(FOUR, part) for part in without]
            self.assertEqual(added(FOUR, person), tuple(expected))

    def test_beyond_the_limits(self):
        self.assertEqual(added((-1000, 0, 1000), 1), (0, 2000))

    def test_bad_person(self):
        for person in (2, -1, 10 ** 20, True, False, None, "0", (0,), [0], {}):
            expect(self, BadPerson, added, (0, 0, 0), person)
        expect(self, BadPerson, added, (0,) * 7, 3)
        expect(self, BadPerson, added, (0,) * 15, 4)

    def test_game_before_person(self):
        expect(self, BadGame, added, (0, 0), 7)


class Dividends(unittest.TestCase):
    def test_by_hand(self):
        self.assertEqual(dividends((1, 2, 10)), (1, 2, 7))
        self.assertEqual(dividends((1, 2, 3, 10, 20, 30, 100)), (1, 2, 3, 7, 16, 25, 46))
        self.assertEqual(dividends((1,) * 15), (1, 1, 1, 1, -1, -1, -1, -1, -1, -1, 1, 1, 1, 1, -1))

    def test_sums(self):
        for seed in range(30):
            many = 2 + seed % 3
            game = reference.some_game(seed, many, 1000)
            found = dict(zip(groups(many), dividends(game)))
            for group in groups(many):
                within = [number for part, number in found.items() if set(part) <= set(group)]
                self.assertEqual(sum(within), worth(game, group))


class Arguments(unittest.TestCase):
    def test_results_are_tuples_of_integers(self):
        for found in (turned(FOUR), added(FOUR, 2), dividends(FOUR)):
            self.assertIs(type(found), tuple)
            self.assertTrue(all(type(item) is int for item in found))
        self.assertIs(type(groups(4)), tuple)

    def test_nothing_is_modified(self):
        game, group = [0, [1], {2: 3}], [2, 0]
        before = copy.deepcopy((game, group))
        expect(self, BadGame, worth, game, group)
        expect(self, BadGame, dividends, (game, 0, 0))
        expect(self, BadGroup, worth, (0, 0, 0), group)
        self.assertEqual((game, group), before)


if __name__ == "__main__":
    unittest.main()
