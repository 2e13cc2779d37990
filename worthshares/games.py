"""Games: what each group of two to four people is worth."""

from itertools import combinations

from worthshares.checks import check_game, check_group, check_many, check_person, head_count


def all_groups(many):
    """The groups in their order, for a number of people that is known to be right."""
    found = []
    for size in range(1, many + 1):
        found += list(combinations(range(many), size))
    return tuple(found)


def others(many, group):
    """All people who are not in the group."""
    return tuple([person for person in range(many) if person not in group])


def joined(group, person):
    """The group with one more person."""
    return tuple(sorted([*group, person]))


def lies_within(part, group):
    return all([person in group for person in part])


def groups_among(people_left, many):
    """The group of nobody, and all groups that consist of some of these people, in order."""
    return [()] + [group for group in all_groups(many) if lies_within(group, people_left)]


def worth_table(game):
    """The worth by the group, with the group of nobody."""
    table = {(): 0}
    for group, value in zip(all_groups(head_count(game)), game):
        table[group] = value
    return table


def turned_worths(game):
    """The turned game, for a game that is known to be right."""
    many = head_count(game)
    table = worth_table(game)
    return tuple([game[-1] - table[others(many, group)] for group in all_groups(many)])


def added_worths(game, person):
    """What the person adds to each group without it, for arguments that are known to be right."""
    many = head_count(game)
    table = worth_table(game)
    without = groups_among(others(many, (person,)), many)
    return tuple([table[joined(group, person)] - table[group] for group in without])


def groups(many):
    """All groups, the smaller ones first, those of one size ascending."""
    check_many(many)
    return all_groups(many)


def people(game):
    """The number of people of a game."""
    check_game(game)
    return head_count(game)


def worth(game, group):
    """The worth of a group; nobody, (), is worth 0."""
    check_game(game)
    check_group(group, head_count(game))
    return worth_table(game)[group]


def turned(game):
    """What all are worth less what all who are not in the group are worth, for each group."""
    check_game(game)
    return turned_worths(game)


def added(game, person):
    """What the worth of each group without the person rises by if it joins, nobody first."""
    check_game(game)
    check_person(person, head_count(game))
    return added_worths(game, person)


def dividends(game):
    """The numbers of which those of a group and of all groups within it sum up to its worth."""
    check_game(game)
    found = {}
    # Smaller groups come first, so the numbers of all groups within one are known at its turn.
    for group, value in zip(all_groups(head_count(game)), game):
        within = [found[part] for part in found if lies_within(part, group)]
        found[group] = value - sum(within)
    return tuple(found.values())
