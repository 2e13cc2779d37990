"""Axioms: what a rule should respect, and which of them a rule keeps.

A demand is a pair (parts, target) that an axiom makes at a game. The parts are pairs of a person
and of worths; the shares of these people at these worths have to add up to the target. A rule
breaks an axiom at a game if it does not meet one of the demands that the axiom makes there.
"""

from itertools import combinations, permutations

from worthshares.checks import check_alike, check_game, check_rule, head_count
from worthshares.errors import BadAxiom, BadAxioms
from worthshares.games import (
    added_worths, all_groups, groups_among, joined, others, turned_worths, worth_table,
)
from worthshares.rules import weighted_sum


def negative(worths):
    return tuple([-value for value in worths])


def renamed(game, order):
    """The game after each person has been given the name that stands at its place in the order."""
    table = {}
    for group, value in worth_table(game).items():
        table[tuple(sorted([order[person] for person in group]))] = value
    return tuple([table[group] for group in all_groups(head_count(game))])


def alike_demands(game):
    found = []
    for order in permutations(range(head_count(game))):
        anew = negative(renamed(game, order))
        found += [([(person, game), (name, anew)], 0) for person, name in enumerate(order)]
    return found


def only_demand(game, person, kept):
    """The share does not change if all worths but the kept ones are replaced by 0.

    As shares are linear, this is so if those worths alone make a share of 0.
    """
    table = worth_table(game)
    rest = [0 if group in kept else table[group] for group in all_groups(head_count(game))]
    return ([(person, tuple(rest))], 0)


def ends_demands(game):
    many = head_count(game)
    everyone = tuple(range(many))
    return [only_demand(game, person, ((person,), everyone)) for person in range(many)]


def flat_demands(game):
    many = head_count(game)
    everyone = tuple(range(many))
    return [only_demand(game, person, (everyone,)) for person in range(many)]


def last_demands(game):
    many = head_count(game)
    everyone = tuple(range(many))
    return [only_demand(game, person, (everyone, others(many, (person,)))) for person in range(many)]


def add_the_same(game, first, second):
    """Whether two people add the same to each group without both, that of nobody too."""
    many = head_count(game)
    table = worth_table(game)
    without = groups_among(others(many, (first, second)), many)
    return all([table[joined(group, first)] == table[joined(group, second)] for group in without])


def equal_demands(game):
    found = []
    for first, second in combinations(range(head_count(game)), 2):
        if add_the_same(game, first, second):
            found.append(([(first, game), (second, negative(game))], 0))
    return found


def idle_demands(game):
    many = head_count(game)
    idle = [person for person in range(many) if not any(added_worths(game, person))]
    return [([(person, game)], 0) for person in idle]


def adds_own_worth(game, person):
    own = worth_table(game)[(person,)]
    return all([rise == own for rise in added_worths(game, person)])


def own_demands(game):
    many = head_count(game)
    table = worth_table(game)
    steady = [person for person in range(many) if adds_own_worth(game, person)]
    return [([(person, game)], table[(person,)]) for person in steady]


def plain_demands(game):
    table = worth_table(game)
    for group, value in table.items():
        if value != sum([table[(person,)] for person in group]):
            return []
    return [([(person, game)], table[(person,)]) for person in range(head_count(game))]


def turned_demands(game):
    other = negative(turned_worths(game))
    return [([(person, game), (person, other)], 0) for person in range(head_count(game))]


def whole_demands(game):
    return [([(person, game) for person in range(head_count(game))], game[-1])]


def worth_nothing(game, person):
    """Whether all groups with the person are worth 0."""
    return all([value == 0 for group, value in worth_table(game).items() if person in group])


def zero_demands(game):
    many = head_count(game)
    nothing = [person for person in range(many) if worth_nothing(game, person)]
    return [([(person, game)], 0) for person in nothing]


DEMANDS = {
    "alike": alike_demands,
    "ends": ends_demands,
    "equal": equal_demands,
    "flat": flat_demands,
    "idle": idle_demands,
    "last": last_demands,
    "own": own_demands,
    "plain": plain_demands,
    "turned": turned_demands,
    "whole": whole_demands,
    "zero": zero_demands,
}


def marked_game(many, marks):
    """The game in which the marked groups are worth 1 and all others 0."""
    return tuple([int(group in marks) for group in all_groups(many)])


def single_games(many):
    """One group is worth 1: all games are sums of multiples of these.

    Of them, those in which no group with some person has a worth are enough for "zero".
    """
    return [marked_game(many, (group,)) for group in all_groups(many)]


def person_games(many):
    """Only one person adds anything, always 1: of these come all games that are sums of own worths."""
    found = []
    for person in range(many):
        found.append(marked_game(many, [group for group in all_groups(many) if person in group]))
    return found


def idle_games(many):
    """A group is worth 1 with and without a person: of these come all games to which it adds 0."""
    found = []
    for person in range(many):
        for group in groups_among(others(many, (person,)), many)[1:]:
            found.append(marked_game(many, (group, joined(group, person))))
    return found


def own_games(many):
    """Of these come all games in which a person adds its own worth to each group without it."""
    return idle_games(many) + person_games(many)


def equal_games(many):
    """Of these come, for any two people, all games in which both add the same."""
    found = single_games(many)
    for first, second in combinations(range(many), 2):
        for group in groups_among(others(many, (first, second)), many):
            found.append(marked_game(many, (joined(group, first), joined(group, second))))
    return found


TRIALS = {
    "equal": equal_games,
    "idle": idle_games,
    "own": own_games,
    "plain": person_games,
}


def demands(axiom, game):
    """What an axiom demands at a game, for arguments that are known to be right."""
    ask = DEMANDS[axiom]
    return ask(game)


def trial_games(axiom, many):
    """Games that are enough: a rule that breaks the axiom at any game breaks it at one of them.

    Where an axiom demands something of some people, it does so at all sums of multiples of certain
    games. Shares are linear, so a demand that is met at these games is met at all such sums.
    """
    listing = TRIALS.get(axiom, single_games)
    return listing(many)


def is_met(rule, demand):
    parts, target = demand
    found = [weighted_sum(rule[person], worths) for person, worths in parts]
    return weighted_sum(found, [1] * len(found)) == (target, 1)


def is_broken(rule, axiom, game):
    return not all([is_met(rule, demand) for demand in demands(axiom, game)])


def first_break(rule, axiom):
    for game in trial_games(axiom, len(rule)):
        if is_broken(rule, axiom, game):
            return game
    return None


def check_axiom(axiom):
    if axiom not in axioms():
        raise BadAxiom("no axiom has this name")


def check_axioms(wanted):
    if not isinstance(wanted, tuple) or not all([axiom in axioms() for axiom in wanted]):
        raise BadAxioms("wanted axioms are a tuple of names")
    if not all([low < high for low, high in zip(wanted, wanted[1:])]):
        raise BadAxioms("wanted axioms are ascending and different")


def axioms():
    """The names of the axioms, ascending."""
    return tuple(sorted(DEMANDS))


def breaks(rule, axiom, game):
    """Whether the rule breaks the axiom at the game."""
    check_rule(rule)
    check_axiom(axiom)
    check_game(game)
    check_alike(rule, game)
    return is_broken(rule, axiom, game)


def keeps(rule, axiom):
    """Whether the rule breaks the axiom at no game."""
    check_rule(rule)
    check_axiom(axiom)
    return first_break(rule, axiom) is None


def breaking_game(rule, axiom):
    """A game at which the rule breaks the axiom, None if it keeps it."""
    check_rule(rule)
    check_axiom(axiom)
    return first_break(rule, axiom)


def profile(rule):
    """The axioms that the rule keeps, ascending."""
    check_rule(rule)
    return tuple([axiom for axiom in axioms() if first_break(rule, axiom) is None])
