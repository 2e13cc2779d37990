"""Spaces: all rules that keep some axioms, the solutions of linear equations.

The unknowns are the ratios of a rule, person by person, each person's in the order of groups. An
equation is a list of integers: one for each unknown, by which it is multiplied, and last what
these products have to add up to.

Solved equations are a dict from the place of an unknown to the equation that tells it. Its integer
there is above 0, and no other of these equations has that unknown. The unknowns that have no such
equation can be chosen freely.
"""

from math import gcd

from worthshares.axioms import check_axioms, demands, trial_games
from worthshares.checks import check_many
from worthshares.errors import NotOne
from worthshares.rules import lowest


def group_count(many):
    return (1 << many) - 1


def unknowns(many):
    """How many ratios a rule has."""
    return many * group_count(many)


def equation(many, demand):
    """What a demand asks of the ratios."""
    parts, target = demand
    items = group_count(many)
    row = [0] * unknowns(many)
    for person, worths in parts:
        for index, value in enumerate(worths):
            row[person * items + index] += value
    return row + [target]


def equations(many, axiom):
    """All equations of an axiom; a rule keeps it if and only if its ratios solve them."""
    found = {}
    for game in trial_games(axiom, many):
        for demand in demands(axiom, game):
            found[tuple(equation(many, demand))] = True
    return [list(row) for row in found]


def in_small_integers(row):
    """The same equation, divided by what all its integers have in common."""
    common = 0
    for value in row:
        common = gcd(common, value)
    return row if common < 2 else [value // common for value in row]


def without(row, place, solving):
    """An equation freed of the unknown at a place by another one, whose integer there is above 0."""
    common = gcd(row[place], solving[place])
    times, less = solving[place] // common, row[place] // common
    return in_small_integers([times * value - less * away for value, away in zip(row, solving)])


def first_place(row):
    """The first place at which an equation is not 0, None if there is none."""
    for place, value in enumerate(row):
        if value != 0:
            return place
    return None


def solved_with(solved, row):
    """The solved equations with one more, None if it contradicts them."""
    for place, solving in solved.items():
        if row[place] != 0:
            row = without(row, place, solving)
    first = first_place(row)
    if first is None:
        return solved
    if first == len(row) - 1:
        return None
    if row[first] < 0:
        row = [-value for value in row]
    table = {}
    for place, solving in solved.items():
        table[place] = solving if solving[first] == 0 else without(solving, first, row)
    table[first] = row
    return table


def narrowed(solved, rows):
    """The solved equations with more of them, None if there is no solution."""
    for row in rows:
        solved = solved_with(solved, row)
        if solved is None:
            return None
    return solved


def solution(many, wanted):
    """The solved equations of all wanted axioms, None if no rule keeps them."""
    solved = {}
    # The first of all axioms has by far the most equations, and the others alone decide whether
    # there is a solution: so its turn comes last.
    for axiom in reversed(wanted):
        solved = narrowed(solved, equations(many, axiom))
        if solved is None:
            return None
    return solved


def free_places(many, solved):
    """The places of the unknowns that can be chosen freely."""
    return [place for place in range(unknowns(many)) if place not in solved]


def freedom_of(many, solved):
    return None if solved is None else len(free_places(many, solved))


def rule_of(many, ratios):
    """The rule whose ratios, person by person, are told by their places; all others are 0."""
    items = group_count(many)
    rows = []
    for person in range(many):
        start = person * items
        rows.append(tuple([ratios.get(place, (0, 1)) for place in range(start, start + items)]))
    return tuple(rows)


def first_rule(many, solved):
    """The solution in which all that can be chosen freely is 0."""
    ratios = {}
    for place, row in solved.items():
        ratios[place] = lowest(row[-1], row[place])
    return rule_of(many, ratios)


def step(many, solved, chosen):
    """By how much the ratios change if one that can be chosen freely rises by 1."""
    ratios = {chosen: (1, 1)}
    for place, row in solved.items():
        ratios[place] = lowest(-row[chosen], row[place])
    return rule_of(many, ratios)


def check_wanted(many, wanted):
    check_many(many)
    check_axioms(wanted)


def freedom(many, wanted):
    """How many ratios can be chosen freely, None if no rule keeps all wanted axioms."""
    check_wanted(many, wanted)
    return freedom_of(many, solution(many, wanted))


def can_hold(many, wanted):
    """Whether some rule keeps all wanted axioms."""
    return freedom(many, wanted) is not None


def forces(many, wanted):
    """Whether just one rule keeps all wanted axioms."""
    return freedom(many, wanted) == 0


def some_rule(many, wanted):
    """A rule that keeps all wanted axioms, None if there is none."""
    check_wanted(many, wanted)
    solved = solution(many, wanted)
    return None if solved is None else first_rule(many, solved)


def only_rule(many, wanted):
    """The only rule that keeps all wanted axioms."""
    check_wanted(many, wanted)
    solved = solution(many, wanted)
    if freedom_of(many, solved) != 0:
        raise NotOne("there is not just one rule")
    return first_rule(many, solved)


def steps(many, wanted):
    """Rules whose multiples lead from a rule that keeps all wanted axioms to all others."""
    check_wanted(many, wanted)
    solved = solution(many, wanted)
    if solved is None:
        raise NotOne("there is no rule")
    return tuple([step(many, solved, chosen) for chosen in free_places(many, solved)])
