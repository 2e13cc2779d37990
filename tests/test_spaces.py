"""Points 8 and 9: freedom, can_hold, forces, some_rule, only_rule, steps."""

import unittest
from fractions import Fraction
from itertools import combinations

import reference
from reference import ALL_AXIOMS
from worthshares.axioms import profile
from worthshares.checks import check_rule
from worthshares.errors import BadAxioms, BadMany, NotOne
from worthshares.rules import names, told_rule
from worthshares.spaces import can_hold, forces, freedom, only_rule, some_rule, steps
from wrong import NOT_MANY, NOT_WANTED, expect

CALLS = (freedom, can_hold, forces, some_rule, only_rule, steps)
SINGLE = {
    2: (3, 4, 4, 2, 4, 4, 2, 2, 4, 3, 4),
    3: (5, 6, 9, 3, 12, 6, 9, 12, 12, 14, 12),
    4: (7, 8, 18, 4, 32, 8, 28, 44, 32, 45, 32),
}


def all_sets():
    return [part for size in range(len(ALL_AXIOMS) + 1) for part in combinations(ALL_AXIOMS, size)]


def some_sets(many):
    """All sets for 2 and 3 people, for 4 some of all sizes."""
    found = all_sets()
    return found if many < 4 else found[:90] + found[90::29]


def sum_of(rule, parts, factors):
    """The rule with multiples of others added, ratio by ratio."""
    rows = [[Fraction(n, d) for n, d in ratios] for ratios in rule]
    for part, factor in zip(parts, factors):
        for person, ratios in enumerate(part):
            for index, (n, d) in enumerate(ratios):
                rows[person][index] += factor * Fraction(n, d)
    return tuple(tuple(reference.pair(ratio) for ratio in row) for row in rows)


def flat_row(rule):
    """The ratios of a rule, remainders by the prime of the reference, in one list."""
    row = [ratio for ratios in rule for ratio in ratios]
    return [n * pow(d, -1, reference.PRIME) for n, d in row]


def keeps_all(rule, wanted):
    return all(reference.keeps(rule, axiom) for axiom in wanted)


class Freedom(unittest.TestCase):
    def test_no_axioms(self):
        self.assertEqual([freedom(many, ()) for many in (2, 3, 4)], [6, 21, 60])

    def test_single_axioms(self):
        for many, wanted in SINGLE.items():
            self.assertEqual(tuple(freedom(many, (axiom,)) for axiom in ALL_AXIOMS), wanted)

    def test_none_one_many(self):
        for many in (2, 3, 4):
            self.assertIsNone(freedom(many, ("flat", "own")))
            self.assertIsNone(freedom(many, ALL_AXIOMS))
            one = freedom(many, ("equal", "idle", "whole"))
            self.assertEqual((one, type(one)), (0, int))
            self.assertEqual(freedom(many, ("alike", "whole")), many - 1)

    def test_all_sets(self):
        for many in (2, 3, 4):
            wanted = reference.all_freedoms(many)
            self.assertEqual(len(wanted), 2048)
            self.assertEqual({part: freedom(many, part) for part in all_sets()}, wanted)

    def test_whether(self):
        for many in (2, 3, 4):
            freedoms = reference.all_freedoms(many)
            for wanted in some_sets(many):
                free = freedoms[wanted]
                self.assertIs(can_hold(many, wanted), free is not None, (many, wanted))
                self.assertIs(forces(many, wanted), free == 0, (many, wanted))


class Rules(unittest.TestCase):
    def check_space(self, many, wanted, free):
        rule = some_rule(many, wanted)
        if free is None:
            self.assertIsNone(rule, wanted)
            expect(self, NotOne, only_rule, many, wanted)
            expect(self, NotOne, steps, many, wanted)
            return
        found = steps(many, wanted)
        self.assertIs(type(found), tuple)
        self.assertEqual(len(found), free, wanted)
        for each in (rule, *found):
            check_rule(each)
            self.assertEqual(len(each), many)
        self.assertTrue(keeps_all(rule, wanted), wanted)
        # Each step alone, and all at once: with the rule itself, that is a test of every multiple.
        for each in found:
            self.assertTrue(keeps_all(sum_of(rule, [each], [1]), wanted), wanted)
        factors = [Fraction(n, 7) for n in reference.numbers(len(wanted), -20, 20, free)]
        self.assertTrue(keeps_all(sum_of(rule, found, factors), wanted), wanted)
        # No step comes of the others, and there are as many as there are free ratios.
        self.assertEqual(reference.rank([flat_row(each) for each in found]), free, wanted)
        if free == 0:
            self.assertEqual(only_rule(many, wanted), rule)
        else:
            expect(self, NotOne, only_rule, many, wanted)

    def test_spaces(self):
        for many in (2, 3, 4):
            freedoms = reference.all_freedoms(many)
            for wanted in some_sets(many):
                self.check_space(many, wanted, freedoms[wanted])

    def test_profile_holds_what_is_wanted(self):
        for many in (2, 3, 4):
            for wanted in ((), ("alike",), ("ends", "own"), ("idle", "turned"), ("plain", "turned", "whole")):
                self.assertLessEqual(set(wanted), set(profile(some_rule(many, wanted))))

    def test_told_rules_come_of_the_steps(self):
        for many in (2, 3, 4):
            for name in names():
                rule = told_rule(name, many)
                kept = profile(rule)
                for wanted in [kept, kept[:2], kept[1:], ()]:
                    found = [flat_row(each) for each in steps(many, wanted)]
                    pairs = zip(flat_row(rule), flat_row(some_rule(many, wanted)))
                    away = [one - other for one, other in pairs]
                    self.assertEqual(reference.rank(found + [away]), len(found), (name, wanted))

    def test_no_axioms(self):
        for many in (2, 3, 4):
            items = 2 ** many - 1
            found = steps(many, ())
            self.assertEqual(len(found), many * items)
            check_rule(some_rule(many, ()))
            expect(self, NotOne, only_rule, many, ())

    def test_only_rules_that_are_told(self):
        for many in (2, 3, 4):
            for wanted, name in (
                (("equal", "idle", "whole"), "shapley"), (("alike", "idle", "whole"), "shapley"),
                (("equal", "idle", "own", "plain", "turned", "whole"), "shapley"),
                (("alike", "flat", "whole"), "even"), (("equal", "ends", "whole"), "even"),
                (("alike", "last", "whole"), "even"), (("alike", "whole", "zero"), "even"),
                (("ends", "own"), "own"), (("ends", "plain"), "own"), (("own", "zero"), "own"),
                (("last", "own"), "last"), (("last", "plain"), "last"), (("idle", "last", "plain"), "last"),
            ):
                ascending = tuple(sorted(wanted))
                self.assertEqual(only_rule(many, ascending), told_rule(name, many), (many, wanted))
                self.assertEqual(some_rule(many, ascending), told_rule(name, many))
                self.assertEqual(steps(many, ascending), ())

    def test_only_rule_that_gives_nothing(self):
        for many in (2, 3, 4):
            nothing = (((0, 1),) * (2 ** many - 1),) * many
            self.assertEqual(only_rule(many, ("flat", "idle")), nothing)
            self.assertEqual(only_rule(many, ("idle", "last", "zero")), nothing)


class Errors(unittest.TestCase):
    def test_bad_many(self):
        for call in CALLS:
            for many in NOT_MANY:
                expect(self, BadMany, call, many, ("flat", "idle"))

    def test_bad_axioms(self):
        for call in CALLS:
            for wanted in NOT_WANTED:
                expect(self, BadAxioms, call, 3, wanted)

    def test_the_first_invalid_argument(self):
        for call in CALLS:
            for wanted in NOT_WANTED:
                expect(self, BadMany, call, 5, wanted)
            expect(self, BadMany, call, True, ())

    def test_not_one_comes_last(self):
        for call in (only_rule, steps):
            expect(self, BadAxioms, call, 2, ("own", "flat"))
            expect(self, BadMany, call, 1, ("flat", "own"))
            expect(self, NotOne, call, 2, ("flat", "own"))
        for many in (2, 3, 4):
            expect(self, NotOne, only_rule, many, ("whole",))

    def test_wrong_arguments_stay_as_they_are(self):
        wanted = ["flat", "own"]
        table = {"flat": 1}
        for call in CALLS:
            expect(self, BadAxioms, call, 2, wanted)
            expect(self, BadAxioms, call, 2, table)
        self.assertEqual((wanted, table), (["flat", "own"], {"flat": 1}))


if __name__ == "__main__":
    unittest.main()
