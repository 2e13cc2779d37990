"""Rules: ratios with which each worth enters each share, and the rules that have names."""

from math import factorial, gcd, lcm

from worthshares.checks import check_alike, check_game, check_many, check_rule
from worthshares.errors import BadName
from worthshares.games import all_groups, others


def lowest(top, bottom):
    """The ratio of two integers in lowest terms, the second one being above 0."""
    common = gcd(top, bottom)
    return (top // common, bottom // common)


def weighted_sum(ratios, weights):
    """The sum of ratios, each times its integer, as a ratio."""
    used = [(ratio, weight) for ratio, weight in zip(ratios, weights) if weight != 0]
    bottom = 1
    for ratio, weight in used:
        bottom = lcm(bottom, ratio[1])
    top = sum([weight * ratio[0] * (bottom // ratio[1]) for ratio, weight in used])
    return lowest(top, bottom)


def banzhaf_ratio(many, person, group):
    sign = 1 if person in group else -1
    return lowest(sign, 1 << (many - 1))


def even_ratio(many, person, group):
    return lowest(int(len(group) == many), many)


def in_turn_ratio(many, person, group):
    if group == tuple(range(person + 1)):
        return (1, 1)
    return (-1, 1) if group == tuple(range(person)) else (0, 1)


def last_weight(many, person, group):
    if len(group) == many:
        return 1
    return -1 if group == others(many, (person,)) else 0


def last_ratio(many, person, group):
    return (last_weight(many, person, group), 1)


def own_weight(many, person, group):
    return int(group == (person,))


def own_ratio(many, person, group):
    return (own_weight(many, person, group), 1)


def with_even_rest(weight, many, person, group):
    """The ratio if each person takes its weight first, and what then is left goes to all evenly."""
    taken = sum([weight(many, taker, group) for taker in range(many)])
    left = int(len(group) == many) - taken
    return lowest(many * weight(many, person, group) + left, many)


def last_even_ratio(many, person, group):
    return with_even_rest(last_weight, many, person, group)


def rest_even_ratio(many, person, group):
    return with_even_rest(own_weight, many, person, group)


def shapley_ratio(many, person, group):
    """The part of all orders in which the person joins to form the group, or joins the group."""
    joins = person in group
    ahead = len(group) - 1 if joins else len(group)
    orders = factorial(ahead) * factorial(many - 1 - ahead)
    return lowest(orders if joins else -orders, factorial(many))


RATIOS = {
    "banzhaf": banzhaf_ratio,
    "even": even_ratio,
    "in turn": in_turn_ratio,
    "last": last_ratio,
    "last even": last_even_ratio,
    "own": own_ratio,
    "rest even": rest_even_ratio,
    "shapley": shapley_ratio,
}


def shares(rule, game):
    """The shares of all people: the worths of all groups, each times the person's ratio for it."""
    check_rule(rule)
    check_game(game)
    check_alike(rule, game)
    return tuple([weighted_sum(ratios, game) for ratios in rule])


def names():
    """The names of the told rules, ascending."""
    return tuple(sorted(RATIOS))


def told_rule(name, many):
    """The rule of a name for so many people."""
    if name not in names():
        raise BadName("no told rule has this name")
    check_many(many)
    ratio = RATIOS[name]
    rows = [[ratio(many, person, group) for group in all_groups(many)] for person in range(many)]
    return tuple([tuple(row) for row in rows])
