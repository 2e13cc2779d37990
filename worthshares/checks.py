"""Checks of arguments, each of which raises the error of its kind."""

from math import gcd

from worthshares.errors import BadGame, BadGroup, BadMany, BadPerson, BadRule, NotAlike, NotText

FEWEST_PEOPLE = 2
MOST_PEOPLE = 4
WORTH_LIMIT = 1000
RATIO_LIMIT = 1000000000000
PEOPLE_BY_ITEMS = {3: 2, 7: 3, 15: 4}


def is_integer(value, low, high):
    """Whether a value is an integer from low to high; True and False are none here."""
    return isinstance(value, int) and not isinstance(value, bool) and low <= value <= high


def check_many(many):
    if not is_integer(many, FEWEST_PEOPLE, MOST_PEOPLE):
        raise BadMany("there are 2 to 4 people")


def head_count(game):
    """The number of people of a tuple with one item for each group."""
    return PEOPLE_BY_ITEMS[len(game)]


def check_game(game):
    if not isinstance(game, tuple) or len(game) not in PEOPLE_BY_ITEMS:
        raise BadGame(None)
    for index, value in enumerate(game):
        if not is_integer(value, -WORTH_LIMIT, WORTH_LIMIT):
            raise BadGame(index)


def check_person(person, many):
    if not is_integer(person, 0, many - 1):
        raise BadPerson("people are numbered from 0")


def is_group(value, many):
    """Whether a value is a group of so many people, or the empty tuple for nobody."""
    if not isinstance(value, tuple):
        return False
    # The people are checked before they are compared, since other values may have no order.
    if not all([is_integer(person, 0, many - 1) for person in value]):
        return False
    return all([low < high for low, high in zip(value, value[1:])])


def check_group(group, many):
    if not is_group(group, many):
        raise BadGroup("a group is an ascending tuple of different people")


def is_ratio(value):
    if not isinstance(value, tuple) or len(value) != 2:
        return False
    top, bottom = value
    if not is_integer(top, -RATIO_LIMIT, RATIO_LIMIT) or not is_integer(bottom, 1, RATIO_LIMIT):
        return False
    return gcd(top, bottom) == 1


def check_rule(rule):
    if not isinstance(rule, tuple) or not FEWEST_PEOPLE <= len(rule) <= MOST_PEOPLE:
        raise BadRule(None, None)
    items = (1 << len(rule)) - 1
    for person, ratios in enumerate(rule):
        if not isinstance(ratios, tuple) or len(ratios) != items:
            raise BadRule(person, None)
    # A loop of its own: a wrong tuple of a later person comes before a wrong ratio of an earlier one.
    for person, ratios in enumerate(rule):
        for index, ratio in enumerate(ratios):
            if not is_ratio(ratio):
                raise BadRule(person, index)


def check_alike(rule, game):
    if len(rule) != head_count(game):
        raise NotAlike("the rule and the game are for different numbers of people")


def check_text(value):
    if not isinstance(value, str):
        raise NotText("this is not a string")
