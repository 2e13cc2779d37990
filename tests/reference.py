"""A second reading of the document, in fractions and without the package, to test against."""

from fractions import Fraction
from functools import lru_cache
from itertools import combinations, permutations

ALL_AXIOMS = ("alike", "ends", "equal", "flat", "idle", "last", "own", "plain", "turned", "whole", "zero")


def subsets(items):
    items = sorted(items)
    return [frozenset(part) for size in range(len(items) + 1) for part in combinations(items, size)]


def order_of(many):
    return subsets(range(many))[1:]


def many_of(game):
    return {3: 2, 7: 3, 15: 4}[len(game)]


def as_worths(game):
    found = dict(zip(order_of(many_of(game)), game))
    found[frozenset()] = 0
    return found


def as_rows(rule):
    return [dict(zip(order_of(len(rule)), [Fraction(n, d) for n, d in ratios])) for ratios in rule]


def share(rows, worths, person):
    return sum(ratio * worths[group] for group, ratio in rows[person].items())


def rises(worths, many, person):
    return [worths[group | {person}] - worths[group] for group in subsets(set(range(many)) - {person})]


def replaced(worths, kept):
    return {group: value if group in kept else 0 for group, value in worths.items()}


def breaks(rule, axiom, game):
    """What stands behind the axiom's name, word by word."""
    many = len(rule)
    rows, worths = as_rows(rule), as_worths(game)
    everyone, crowd = frozenset(range(many)), range(many)
    shares = [share(rows, worths, person) for person in crowd]
    if axiom == "alike":
        for names in permutations(crowd):
            anew = {frozenset(names[person] for person in group): value for group, value in worths.items()}
            if any(share(rows, anew, names[person]) != shares[person] for person in crowd):
                return True
        return False
    if axiom in ("ends", "flat", "last"):
        for person in crowd:
            more = {"ends": [frozenset({person})], "flat": [], "last": [everyone - {person}]}[axiom]
            if share(rows, replaced(worths, [everyone] + more), person) != shares[person]:
                return True
        return False
    if axiom == "equal":
        for one, two in combinations(crowd, 2):
            without = subsets(everyone - {one, two})
            same = all(worths[group | {one}] == worths[group | {two}] for group in without)
            if same and shares[one] != shares[two]:
                return True
        return False
    if axiom == "idle":
        return any(shares[person] != 0 for person in crowd if set(rises(worths, many, person)) == {0})
    if axiom == "own":
        own = [worths[frozenset({person})] for person in crowd]
        return any(shares[p] != own[p] for p in crowd if set(rises(worths, many, p)) == {own[p]})
    if axiom == "plain":
        own = [worths[frozenset({person})] for person in crowd]
        plain = all(value == sum(own[person] for person in group) for group, value in worths.items())
        return plain and shares != own
    if axiom == "turned":
        other = {group: worths[everyone] - worths[everyone - group] for group in worths}
        return any(share(rows, other, person) != shares[person] for person in crowd)
    if axiom == "whole":
        return sum(shares) != worths[everyone]
    if axiom == "zero":
        nothing = [p for p in crowd if all(worths[group] == 0 for group in worths if p in group)]
        return any(shares[person] != 0 for person in nothing)
    raise AssertionError(axiom)


def ratios_are_0(many, kept):
    """Equations for the ratios of all groups but that of all and those kept for a person."""
    found = []
    for person in range(many):
        for group in order_of(many)[:-1]:
            if group not in kept(person):
                found.append(({(person, group): 1}, 0))
    return found


def alike_equations(many):
    # A ratio tells only the size of the group, and whether the person is in it.
    found, kinds = [], {}
    for person in range(many):
        for group in order_of(many):
            first = kinds.setdefault((person in group, len(group)), (person, group))
            if first != (person, group):
                found.append(({first: 1, (person, group): -1}, 0))
    return found


def equal_equations(many):
    found = []
    for one, two in combinations(range(many), 2):
        for rest in subsets(set(range(many)) - {one, two}):
            if rest:
                found.append(({(one, rest): 1, (two, rest): -1}, 0))
            found.append(({(one, rest | {one, two}): 1, (two, rest | {one, two}): -1}, 0))
            either = (rest | {one}, rest | {two})
            sums = {(one, group): 1 for group in either} | {(two, group): -1 for group in either}
            found.append((sums, 0))
    return found


def idle_equations(many):
    found = []
    for person in range(many):
        for rest in subsets(set(range(many)) - {person})[1:]:
            found.append(({(person, rest): 1, (person, rest | {person}): 1}, 0))
    return found


def total_of(many, person, other):
    """The ratios of a person for all groups with another one."""
    return {(person, group): 1 for group in order_of(many) if other in group}


def equations(many, axiom):
    """Equations between the ratios, worked out by hand from each axiom.

    Each is a pair of the integers by which ratios are multiplied, and of what the sum has to be.
    """
    everyone, crowd = frozenset(range(many)), range(many)
    proper = order_of(many)[:-1]
    if axiom == "alike":
        return alike_equations(many)
    if axiom == "ends":
        return ratios_are_0(many, lambda person: [{person}])
    if axiom == "flat":
        return ratios_are_0(many, lambda person: [])
    if axiom == "last":
        return ratios_are_0(many, lambda person: [everyone - {person}])
    if axiom == "equal":
        return equal_equations(many)
    if axiom == "idle":
        return idle_equations(many)
    if axiom == "own":
        return idle_equations(many) + [(total_of(many, person, person), 1) for person in crowd]
    if axiom == "plain":
        return [(total_of(many, one, two), int(one == two)) for one in crowd for two in crowd]
    if axiom == "turned":
        # A group and its rest give the same equation, and no group is its own rest.
        return [({(p, group): 1, (p, everyone - group): 1}, 0) for p in crowd for group in proper]
    if axiom == "whole":
        return [({(p, group): 1 for p in crowd}, int(group == everyone)) for group in order_of(many)]
    if axiom == "zero":
        return ratios_are_0(many, lambda person: [group for group in proper if person in group])
    raise AssertionError(axiom)


def keeps(rule, axiom):
    rows = as_rows(rule)
    for factors, target in equations(len(rule), axiom):
        if sum(factor * rows[person][group] for (person, group), factor in factors.items()) != target:
            return False
    return True


def numbers(seed, low, high, count):
    """Some numbers that are the same in each run."""
    found = []
    for _ in range(count):
        seed = (seed * 6364136223846793005 + 1442695040888963407) % 2 ** 64
        found.append(low + (seed >> 33) % (high - low + 1))
    return found


def some_game(seed, many, limit=3):
    return tuple(numbers(seed, -limit, limit, 2 ** many - 1))


def pair(fraction):
    return (fraction.numerator, fraction.denominator)


def changed(rule, person, index, ratio):
    """The rule with another ratio at one place."""
    rows = [list(ratios) for ratios in rule]
    rows[person][index] = ratio
    return tuple(tuple(row) for row in rows)


def some_rule(seed, many, limit=3):
    items = 2 ** many - 1
    tops = numbers(seed, -limit, limit, many * items)
    bottoms = numbers(seed + 1, 1, limit, many * items)
    pairs = [pair(Fraction(top, bottom)) for top, bottom in zip(tops, bottoms)]
    return tuple(tuple(pairs[person * items:(person + 1) * items]) for person in range(many))


# Ranks are counted in the remainders by this prime: none is above the true rank.
PRIME = 2 ** 61 - 1


def dense(many, equation):
    """An equation as a list of integers, what the sum has to be last."""
    factors, target = equation
    places = [(person, group) for person in range(many) for group in order_of(many)]
    return [factors.get(place, 0) for place in places] + [target]


def with_row(basis, row):
    """A basis (from the first place of a row that is not 0 to the row) with one more row."""
    row = [value % PRIME for value in row]
    for at in range(len(row)):
        if not row[at]:
            continue
        if at not in basis:
            inverse = pow(row[at], -1, PRIME)
            return basis | {at: [value * inverse % PRIME for value in row]}
        row = [(value - row[at] * away) % PRIME for value, away in zip(row, basis[at])]
    return basis


def rank(rows):
    basis = {}
    for row in rows:
        basis = with_row(basis, row)
    return len(basis)


def free_count(basis, unknowns):
    """How many unknowns the equations of a basis leave free, None if they contradict each other."""
    return None if unknowns in basis else unknowns - len(basis)


@lru_cache
def all_freedoms(many):
    """The freedom of each set of axioms, by the closed equations alone."""
    unknowns = many * (2 ** many - 1)
    rows = {axiom: [dense(many, each) for each in equations(many, axiom)] for axiom in ALL_AXIOMS}
    found = {}

    def go(names, basis, rest):
        found[names] = free_count(basis, unknowns)
        for at, axiom in enumerate(rest):
            more = basis
            for row in rows[axiom]:
                more = with_row(more, row)
            go(names + (axiom,), more, rest[at + 1:])

    go((), {}, ALL_AXIOMS)
    return found


def least(freedoms, is_hit):
    """The least sets of those that are hit, by the definition, in the order of the document."""
    found = []
    for names in sorted(freedoms, key=lambda names: (len(names), names)):
        parts = [part for size in range(len(names)) for part in combinations(names, size)]
        if is_hit(freedoms[names]) and not any(is_hit(freedoms[part]) for part in parts):
            found.append(names)
    return tuple(found)
