"""Point 10: least_clashes, least_forcing, clashes, forcings."""

import unittest
from itertools import combinations, product

import reference
from reference import ALL_AXIOMS
from worthshares.errors import BadAxioms, BadMany
from worthshares.maps import clashes, forcings, least_clashes, least_forcing
from worthshares.spaces import forces
from wrong import NOT_MANY, NOT_WANTED, expect


def ordered(sets):
    """Sets of axioms as the document orders them; none may be told twice."""
    found = sorted([tuple(sorted(names)) for names in sets], key=lambda names: (len(names), names))
    assert len(set(found)) == len(found)
    return tuple(found)


def told(*choices):
    """One axiom of each choice, in words separated by blanks, in all ways."""
    return list(product(*[choice.split() for choice in choices]))


# The sets of point 10, in its words and in its order.
CLASHES = (
    told("flat", "own plain") + told("ends", "own", "last turned whole") + told("ends", "plain", "last turned whole")
    + told("idle", "whole", "ends flat last zero") + told("last", "own", "turned whole zero")
    + told("last", "plain", "turned whole zero") + told("turned", "zero", "own plain")
    + told("whole", "zero", "own plain")
)
FORCING_4 = (
    told("ends", "own plain") + told("flat", "idle") + told("last", "own plain") + told("own", "zero")
    + told("whole", "alike equal", "ends flat idle last own zero") + told("ends", "idle", "last turned")
    + told("idle", "last", "turned zero") + told("idle", "zero", "plain turned")
)
FORCING_3 = FORCING_4 + told("plain", "turned", "whole", "alike equal")
FORCING_2 = (
    [names for names in FORCING_4 if set(names) != {"idle", "plain", "zero"}]
    + told("own", "turned") + told("plain", "turned") + told("plain", "zero") + told("alike", "plain", "whole")
    + told("equal", "plain", "whole") + told("idle", "turned", "whole")
)
FORCING = {2: FORCING_2, 3: FORCING_3, 4: FORCING_4}


def within(sets, wanted):
    return tuple(names for names in sets if set(names) <= set(wanted))


def some_wanted(many):
    """Each set of wanted axioms for 2 people, for more some of all sizes."""
    found = [part for size in range(12) for part in combinations(ALL_AXIOMS, size)]
    return {2: found, 3: found[::9], 4: found[:12] + found[12::97] + found[-3:]}[many]


class Least(unittest.TestCase):
    def test_clashes_as_told(self):
        self.assertEqual(len(CLASHES), 22)
        for many in (2, 3, 4):
            self.assertEqual(least_clashes(many), ordered(CLASHES))

    def test_forcing_as_told(self):
        self.assertEqual([len(FORCING[many]) for many in (2, 3, 4)], [29, 26, 24])
        for many in (2, 3, 4):
            self.assertEqual(least_forcing(many), ordered(FORCING[many]))

    def test_both_by_definition(self):
        for many in (2, 3, 4):
            freedoms = reference.all_freedoms(many)
            self.assertEqual(least_clashes(many), reference.least(freedoms, lambda free: free is None))
            self.assertEqual(least_forcing(many), reference.least(freedoms, lambda free: free == 0))

    def test_bad_many(self):
        for call in (least_clashes, least_forcing):
            for many in NOT_MANY:
                expect(self, BadMany, call, many)


class Within(unittest.TestCase):
    def test_wanted(self):
        for many in (2, 3, 4):
            clashing, forcing = ordered(CLASHES), ordered(FORCING[many])
            for wanted in some_wanted(many):
                self.assertEqual(clashes(many, wanted), within(clashing, wanted), (many, wanted))
                self.assertEqual(forcings(many, wanted), within(forcing, wanted), (many, wanted))

    def test_no_axioms_and_all(self):
        for many in (2, 3, 4):
            self.assertEqual((clashes(many, ()), forcings(many, ())), ((), ()))
            self.assertEqual(clashes(many, ALL_AXIOMS), least_clashes(many))
            self.assertEqual(forcings(many, ALL_AXIOMS), least_forcing(many))

    def test_just_one_rule(self):
        for many in (2, 3, 4):
            for wanted in some_wanted(many):
                one = not clashes(many, wanted) and bool(forcings(many, wanted))
                self.assertIs(forces(many, wanted), one, (many, wanted))

    def test_errors(self):
        for call in (clashes, forcings):
            for many in NOT_MANY:
                expect(self, BadMany, call, many, ("flat", "own"))
                expect(self, BadMany, call, many, ("own", "flat"))
            for wanted in NOT_WANTED:
                expect(self, BadAxioms, call, 2, wanted)
                expect(self, BadMany, call, 5, wanted)


if __name__ == "__main__":
    unittest.main()
