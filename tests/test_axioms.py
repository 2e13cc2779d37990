"""Points 6 and 7: where a rule breaks an axiom, and which axioms it keeps."""

import unittest
from itertools import product

import reference
from wrong import bad_games, bad_rules, expect, expect_bad_game, expect_bad_rule
from worthshares.axioms import axioms, breaking_game, breaks, keeps, profile
from worthshares.errors import BadAxiom, NotAlike
from worthshares.games import people
from worthshares.rules import names, told_rule

NO_AXIOMS = ("fair", "Whole", "", "zero ", None, 0, True, (), ("whole",), [], ["whole"], {}, {"whole": 1})

PROFILES = {
    "banzhaf": ("alike", "equal", "idle", "own", "plain", "turned"),
    "even": ("alike", "ends", "equal", "flat", "last", "turned", "whole", "zero"),
    "in turn": ("idle", "own", "plain", "whole"),
    "last": ("alike", "equal", "idle", "last", "own", "plain"),
    "last even": ("alike", "equal", "plain", "whole"),
    "own": ("alike", "ends", "equal", "idle", "own", "plain", "zero"),
    "rest even": ("alike", "equal", "plain", "whole"),
    "shapley": ("alike", "equal", "idle", "own", "plain", "turned", "whole"),
}


def rules_to_try(many):
    """Told rules, such with one ratio changed, a few mixed ones, and the rule that gives nothing."""
    items = 2 ** many - 1
    told = [told_rule(name, many) for name in names()]
    found = told + [(((0, 1),) * items,) * many, ((((1, many),) * items),) * many]
    for seed, rule in enumerate(told):
        spots = reference.numbers(seed, 0, many * items - 1, 8)
        found += [reference.changed(rule, at // items, at % items, (1, 7)) for at in spots]
    found += [reference.some_rule(seed, many, 1) for seed in range(6)]
    return found


class Names(unittest.TestCase):
    def test_axioms(self):
        self.assertEqual(axioms(), reference.ALL_AXIOMS)


class Breaks(unittest.TestCase):
    def compare(self, rule, game):
        for axiom in reference.ALL_AXIOMS:
            expected = reference.breaks(rule, axiom, game)
            self.assertIs(breaks(rule, axiom, game), expected, (rule, axiom, game))

    def test_two_people(self):
        for rule in rules_to_try(2):
            for game in product((-1, 0, 1), repeat=3):
                self.compare(rule, game)

    def test_three_people(self):
        for at, rule in enumerate(rules_to_try(3)):
            for bits in range(at % 9, 128, 9):
                self.compare(rule, tuple(bits >> k & 1 for k in range(7)))

    def test_four_people(self):
        for at, rule in enumerate(rules_to_try(4)):
            for seed in range(3):
                self.compare(rule, reference.some_game(100 * at + seed, 4, 1))
                self.compare(rule, self.additive(at + seed))

    def additive(self, seed):
        own = reference.numbers(seed, -250, 250, 4)
        return tuple(sum(own[person] for person in group) for group in reference.order_of(4))

    def test_limits(self):
        for many in (2, 3, 4):
            items = 2 ** many - 1
            for name in names():
                rule = told_rule(name, many)
                self.compare(rule, (1000,) * (items - 1) + (-1000,))
                self.compare(rule, (-1000, 1000) * (items // 2) + (1000,))
                self.compare(rule, (0,) * items)

    def test_turned_beyond_the_limits(self):
        game = (1000, 1000, -1000)
        self.assertIs(breaks(told_rule("own", 2), "turned", game), True)
        self.assertIs(breaks(told_rule("shapley", 2), "turned", game), False)
        self.assertIs(breaks(told_rule("even", 4), "turned", (1000,) * 14 + (-1000,)), False)

    def test_nobody_is_a_group_to_add_to(self):
        even = told_rule("even", 2)
        self.assertIs(breaks(even, "idle", (4, 4, 4)), False)
        self.assertIs(breaks(even, "idle", (0, 4, 4)), True)
        # Each adds 1 to the other, but only one of them to nobody.
        own = told_rule("own", 2)
        self.assertIs(breaks(own, "equal", (1, 0, 1)), False)

    def test_bad_rule(self):
        for rule, person, index in bad_rules():
            expect_bad_rule(self, person, index, breaks, rule, "whole", (0,) * 7)

    def test_bad_axiom(self):
        for axiom in NO_AXIOMS:
            expect(self, BadAxiom, breaks, told_rule("own", 2), axiom, (0, 0, 0))

    def test_bad_game(self):
        for game, index in bad_games():
            for axiom in ("whole", "turned"):
                expect_bad_game(self, index, breaks, told_rule("own", 3), axiom, game)

    def test_not_alike(self):
        for axiom in reference.ALL_AXIOMS:
            expect(self, NotAlike, breaks, told_rule("own", 2), axiom, (0,) * 7)
            expect(self, NotAlike, breaks, told_rule("own", 4), axiom, (0,) * 3)

    def test_order_of_errors(self):
        own = told_rule("own", 2)
        expect_bad_rule(self, None, None, breaks, [own], "fair", (0, 0))
        expect_bad_rule(self, 1, 2, breaks, reference.changed(own, 1, 2, (2, 2)), "fair", (0,) * 7)
        expect(self, BadAxiom, breaks, own, "fair", (0, 0))
        expect(self, BadAxiom, breaks, own, "fair", (0,) * 7)
        expect_bad_game(self, 6, breaks, own, "whole", (0,) * 6 + (True,))


class Keeps(unittest.TestCase):
    def compare(self, rule):
        kept = []
        for axiom in reference.ALL_AXIOMS:
            expected = reference.keeps(rule, axiom)
            self.assertIs(keeps(rule, axiom), expected, (rule, axiom))
            self.check_game(rule, axiom, breaking_game(rule, axiom), expected)
            kept += [axiom] if expected else []
        self.assertEqual(profile(rule), tuple(kept))

    def check_game(self, rule, axiom, game, expected):
        if expected:
            self.assertIs(game, None)
            return
        self.assertEqual(people(game), len(rule))
        self.assertTrue(reference.breaks(rule, axiom, game), (rule, axiom, game))
        self.assertIs(breaks(rule, axiom, game), True)

    def test_two_people(self):
        for rule in rules_to_try(2):
            self.compare(rule)

    def test_three_people(self):
        for rule in rules_to_try(3):
            self.compare(rule)

    def test_four_people(self):
        for rule in rules_to_try(4):
            self.compare(rule)

    def test_each_single_ratio_counts(self):
        for many in (2, 3):
            for name in ("shapley", "even", "own", "last"):
                rule = told_rule(name, many)
                for person in range(many):
                    for index, (top, bottom) in enumerate(rule[person]):
                        self.compare(reference.changed(rule, person, index, (top + bottom, bottom)))

    def test_exhaustively_for_two_and_three(self):
        for many in (2, 3):
            items = 2 ** many - 1
            games = [tuple(bits >> k & 1 for k in range(items)) for bits in range(2 ** items)]
            for rule in rules_to_try(many)[::4]:
                for axiom in reference.ALL_AXIOMS:
                    broken = any(reference.breaks(rule, axiom, game) for game in games)
                    self.assertIs(keeps(rule, axiom), not broken, (rule, axiom))

    def test_greatest_integers(self):
        big = 10 ** 12
        for ratio in ((big, 1), (-big, 1), (1, big), (-1, big), (big, big - 1), (big - 1, big)):
            for many in (2, 3, 4):
                self.compare(reference.changed(told_rule("shapley", many), many - 1, 2, ratio))
                self.compare((((ratio,) * (2 ** many - 1)),) * many)

    def test_least_difference(self):
        # Just below a half: the shares miss the worth of all by 1 / 10 ** 12.
        big = 10 ** 12
        rule = reference.changed(told_rule("even", 2), 0, 2, (big // 2 - 1, big))
        self.assertEqual(reference.as_rows(rule)[0][frozenset({0, 1})].denominator, big)
        self.assertIs(keeps(rule, "whole"), False)
        self.assertIs(keeps(told_rule("even", 2), "whole"), True)

    def test_bad_rule(self):
        for rule, person, index in bad_rules():
            expect_bad_rule(self, person, index, keeps, rule, "whole")
            expect_bad_rule(self, person, index, breaking_game, rule, "whole")
            expect_bad_rule(self, person, index, profile, rule)

    def test_bad_axiom(self):
        for axiom in NO_AXIOMS:
            expect(self, BadAxiom, keeps, told_rule("own", 3), axiom)
            expect(self, BadAxiom, breaking_game, told_rule("own", 3), axiom)

    def test_rule_before_axiom(self):
        expect_bad_rule(self, None, None, keeps, (), "fair")
        expect_bad_rule(self, None, None, breaking_game, None, "fair")


class Profiles(unittest.TestCase):
    def test_told_rules(self):
        for many in (3, 4):
            for name, kept in PROFILES.items():
                self.assertEqual(profile(told_rule(name, many)), kept, (name, many))

    def test_told_rules_of_two(self):
        for name in ("banzhaf", "last even", "rest even"):
            self.assertEqual(profile(told_rule(name, 2)), PROFILES["shapley"])
        for name in ("even", "in turn", "last", "own", "shapley"):
            self.assertEqual(profile(told_rule(name, 2)), PROFILES[name])

    def test_rule_of_nothing(self):
        nothing = ("alike", "ends", "equal", "flat", "idle", "last", "turned", "zero")
        for many in (2, 3, 4):
            self.assertEqual(profile((((0, 1),) * (2 ** many - 1),) * many), nothing)

    def test_alike_is_more_than_equal(self):
        # Both have the own worth of person 0: always the same, but another if the two swap names.
        ratios = ((1, 1), (0, 1), (0, 1))
        rule = (ratios, ratios)
        self.assertEqual([keeps(rule, axiom) for axiom in ("alike", "equal")], [False, True])


if __name__ == "__main__":
    unittest.main()
