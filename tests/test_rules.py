"""Points 4 and 5: shares by a rule, and the told rules."""

import unittest
from fractions import Fraction
from itertools import permutations

import reference
from wrong import NOT_MANY, bad_games, bad_rules, expect, expect_bad_game, expect_bad_rule
from worthshares.errors import BadMany, BadName, NotAlike
from worthshares.games import added, groups, worth
from worthshares.rules import names, shares, told_rule

TOLD = ("banzhaf", "even", "in turn", "last", "last even", "own", "rest even", "shapley")


def expected_shares(name, game, many):
    """The shares by a told rule, after its words."""
    everyone = tuple(range(many))
    own = [worth(game, (person,)) for person in everyone]
    last = [worth(game, everyone) - worth(game, everyone[:p] + everyone[p + 1:]) for p in everyone]
    if name == "banzhaf":
        return [Fraction(sum(added(game, p)), 2 ** (many - 1)) for p in everyone]
    if name == "even":
        return [Fraction(game[-1], many)] * many
    if name == "in turn":
        return [worth(game, everyone[:p + 1]) - worth(game, everyone[:p]) for p in everyone]
    if name == "last":
        return last
    if name == "last even":
        return [part + Fraction(game[-1] - sum(last), many) for part in last]
    if name == "own":
        return own
    if name == "rest even":
        return [part + Fraction(game[-1] - sum(own), many) for part in own]
    totals, orders = [0] * many, list(permutations(everyone))
    for order in orders:
        for at, person in enumerate(order):
            ahead = tuple(sorted(order[:at]))
            totals[person] += worth(game, tuple(sorted(order[:at + 1]))) - worth(game, ahead)
    return [Fraction(total, len(orders)) for total in totals]


class Shares(unittest.TestCase):
    def test_by_hand(self):
        rule = (((1, 2), (-1, 3), (1, 1)), ((0, 1), (2, 1), (-1, 6)))
        self.assertEqual(shares(rule, (1, 1, 1)), ((7, 6), (11, 6)))
        self.assertEqual(shares(rule, (2, 3, 0)), ((0, 1), (6, 1)))
        self.assertEqual(shares(rule, (0, 0, 0)), ((0, 1), (0, 1)))
        self.assertEqual(shares(rule, (-1, 1, -1)), ((-11, 6), (13, 6)))

    def test_in_lowest_terms(self):
        rule = (((1, 2), (1, 2), (0, 1)), ((1, 6), (1, 3), (0, 1)))
        self.assertEqual(shares(rule, (1, 1, 0)), ((1, 1), (1, 2)))
        self.assertEqual(shares(rule, (-4, -2, 1000)), ((-3, 1), (-4, 3)))

    def test_against_fractions(self):
        for seed in range(60):
            many = 2 + seed % 3
            rule, game = reference.some_rule(seed, many, 9), reference.some_game(seed, many, 1000)
            rows, worths = reference.as_rows(rule), reference.as_worths(game)
            expected = [reference.pair(reference.share(rows, worths, p)) for p in range(many)]
            self.assertEqual(shares(rule, game), tuple(expected))

    def test_greatest_integers(self):
        big = 10 ** 12
        rule = (((big, 1), (-big, 1), (1, big)), ((big, big - 1), (big - 1, big), (-1, big)))
        self.assertEqual(shares(rule, (1000, -1000, 1)), ((2 * 10 ** 27 + 1, big), reference.pair(
            1000 * Fraction(big, big - 1) - 1000 * Fraction(big - 1, big) - Fraction(1, big)
        )))
        whole = (((big, 1),) * 15, ((-big, 1),) * 15, ((1, big),) * 15, ((-1, big),) * 15)
        self.assertEqual(shares(whole, (1000,) * 15), (
            (15 * 10 ** 15, 1), (-15 * 10 ** 15, 1), (3, 200000000), (-3, 200000000),
        ))

    def test_exact_with_many_denominators(self):
        rule = tuple(tuple((1, 10 ** 12 - 15 * person - index) for index in range(15)) for person in range(4))
        game = (1000, -999) * 7 + (1,)
        rows, worths = reference.as_rows(rule), reference.as_worths(game)
        expected = tuple(reference.pair(reference.share(rows, worths, person)) for person in range(4))
        self.assertEqual(shares(rule, game), expected)

    def test_bad_rule(self):
        for rule, person, index in bad_rules():
            expect_bad_rule(self, person, index, shares, rule, (0,) * 7)

    def test_bad_game(self):
        for game, index in bad_games():
            expect_bad_game(self, index, shares, told_rule("own", 3), game)

    def test_not_alike(self):
        for many in (2, 3, 4):
            for size in (3, 7, 15):
                if size != 2 ** many - 1:
                    expect(self, NotAlike, shares, told_rule("even", many), (0,) * size)

    def test_order_of_errors(self):
        expect_bad_rule(self, None, None, shares, (), (0, 0))
        expect_bad_rule(self, 1, 0, shares, reference.changed(told_rule("own", 3), 1, 0, (0, 2)), (0, 0, 0))
        expect_bad_game(self, 2, shares, told_rule("own", 3), (0, 0, 1001))


class Told(unittest.TestCase):
    def test_names(self):
        self.assertEqual(names(), TOLD)

    def test_by_hand(self):
        half = (1, 2)
        pair = ((half, (-1, 2), half), ((-1, 2), half, half))
        for name in ("shapley", "banzhaf", "last even", "rest even"):
            self.assertEqual(told_rule(name, 2), pair)
        self.assertEqual(told_rule("own", 2), (((1, 1), (0, 1), (0, 1)), ((0, 1), (1, 1), (0, 1))))
        self.assertEqual(told_rule("last", 2), (((0, 1), (-1, 1), (1, 1)), ((-1, 1), (0, 1), (1, 1))))
        self.assertEqual(told_rule("in turn", 2), (((1, 1), (0, 1), (0, 1)), ((-1, 1), (0, 1), (1, 1))))
        third, sixth = (1, 3), (1, 6)
        self.assertEqual(told_rule("shapley", 3)[0], (third, (-1, 6), (-1, 6), sixth, sixth, (-1, 3), third))
        self.assertEqual(told_rule("last even", 3)[2], ((0, 1),) * 3 + ((-2, 3), third, third, third))
        self.assertEqual(told_rule("rest even", 4)[3], ((-1, 4),) * 3 + ((3, 4),) + ((0, 1),) * 10 + ((1, 4),))

    def test_words(self):
        for many in (2, 3, 4):
            for name in TOLD:
                rule = told_rule(name, many)
                for seed in range(12):
                    game = reference.some_game(seed, many, 1000)
                    expected = [reference.pair(Fraction(part)) for part in expected_shares(name, game, many)]
                    self.assertEqual(shares(rule, game), tuple(expected), (name, many))

    def test_told_rules_are_rules(self):
        for many in (2, 3, 4):
            for name in TOLD:
                rule = told_rule(name, many)
                self.assertEqual([len(ratios) for ratios in rule], [len(groups(many))] * many)
                for ratio in [ratio for ratios in rule for ratio in ratios]:
                    self.assertEqual(ratio, reference.pair(Fraction(*ratio)))
                    self.assertTrue(all(type(part) is int for part in ratio))

    def test_bad_name(self):
        wrong = ["Shapley", "in  turn", "inturn", "", " even", "mean", None, 0, True, [], {}, ("even",), ["even"]]
        for name in wrong:
            expect(self, BadName, told_rule, name, 3)

    def test_bad_many(self):
        for many in NOT_MANY:
            expect(self, BadMany, told_rule, "even", many)

    def test_name_before_many(self):
        expect(self, BadName, told_rule, "mean", 5)


if __name__ == "__main__":
    unittest.main()
