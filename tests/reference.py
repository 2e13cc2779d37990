"""A second reading of the document, in fractions and without the package, to test against."""

from fractions import Fraction
from itertools import combinations, permutations

ALL_AXIOMS = ("alike", "ends", "equal", "flat", "idle", "last", "own", "plain", "turned", "whole", "zero")


def subsets(items):
    items = sorted(items)
    return [frozenset(part) for size in range(len(items) + 1) for part in combinations(items, size)]


def order_of(many):
    return subsets(range(many))[1:]


def many_of(game):
    return {3: 2, 7: 3, 15: 4}[len(game)]


def as_worths(game):
    found = dict(zip(order_of(many_of(game)), game))
    found[frozenset()] = 0
    return found


def as_rows(rule):
    return [dict(zip(order_of(len(rule)), [Fraction(n, d) for n, d in ratios])) for ratios in rule]


def share(rows, worths, person):
    return sum(ratio * worths[group] for group, ratio in rows[person].items())


def rises(worths, many, person):
    return [worths[group | {person}] - worths[group] for group in subsets(set(range(many)) - {person})]


def replaced(worths, kept):
    return {group: value if group in kept else 0 for group, value in worths.items()}


def breaks(rule, axiom, game):
    """What stands behind the axiom's name, word by word."""
    many = len(rule)
    rows, worths = as_rows(rule), as_worths(game)
    everyone, crowd = frozenset(range(many)), range(many)
    shares = [share(rows, worths, person) for person in crowd]
    if axiom == "alike":
        for names in permutations(crowd):
            anew = {frozenset(names[person] for person in group): value for group, value in worths.items()}
            if any(share(rows, anew, names[person]) != shares[person] for person in crowd):
                return True
        return False
    if axiom in ("ends", "flat", "last"):
        for person in crowd:
            more = {"ends": [frozenset({person})], "flat": [], "last": [everyone - {person}]}[axiom]
            if share(rows, replaced(worths, [everyone] + more), person) != shares[person]:
                return True
        return False
    if axiom == "equal":
        for one, two in combinations(crowd, 2):
            without = subsets(everyone - {one, two})
            same = all(worths[group | {one}] == worths[group | {two}] for group in without)
            if same and shares[one] != shares[two]:
                return True
        return False
    if axiom == "idle":
        return any(shares[person] != 0 for person in crowd if set(rises(worths, many, person)) == {0})
    if axiom == "own":
        own = [worths[frozenset({person})] for person in crowd]
        return any(shares[p] != own[p] for p in crowd if set(rises(worths, many, p)) == {own[p]})
    if axiom == "plain":
        own = [worths[frozenset({person})] for person in crowd]
        plain = all(value == sum(own[person] for person in group) for group, value in worths.items())
        return plain and shares != own
    if axiom == "turned":
        other = {group: worths[everyone] - worths[everyone - group] for group in worths}
        return any(share(rows, other, person) != shares[person] for person in crowd)
    if axiom == "whole":
        return sum(shares) != worths[everyone]
    if axiom == "zero":
        nothing = [p for p in crowd if all(worths[group] == 0 for group in worths if p in group)]
        return any(shares[person] != 0 for person in nothing)
    raise AssertionError(axiom)


def keeps(rule, axiom):
    """Equations between the ratios, worked out by hand from each axiom."""
    many = len(rule)
    rows = as_rows(rule)
    everyone, crowd = frozenset(range(many)), range(many)
    proper = [group for group in order_of(many) if group != everyone]
    if axiom == "alike":
        # A ratio tells only the size of the group, and whether the person is in it.
        kinds = {}
        for person in crowd:
            for group, ratio in rows[person].items():
                kinds.setdefault((person in group, len(group)), set()).add(ratio)
        return all(len(ratios) == 1 for ratios in kinds.values())
    if axiom == "ends":
        return all(rows[p][group] == 0 for p in crowd for group in proper if group != {p})
    if axiom == "flat":
        return all(rows[p][group] == 0 for p in crowd for group in proper)
    if axiom == "last":
        return all(rows[p][group] == 0 for p in crowd for group in proper if group != everyone - {p})
    if axiom == "equal":
        for one, two in combinations(crowd, 2):
            first, second = rows[one], rows[two]
            for rest in subsets(everyone - {one, two}):
                if rest and first[rest] != second[rest]:
                    return False
                if first[rest | {one, two}] != second[rest | {one, two}]:
                    return False
                if first[rest | {one}] + first[rest | {two}] != second[rest | {one}] + second[rest | {two}]:
                    return False
        return True
    if axiom in ("idle", "own"):
        for person in crowd:
            for rest in subsets(everyone - {person})[1:]:
                if rows[person][rest] + rows[person][rest | {person}] != 0:
                    return False
            alone = sum(ratio for group, ratio in rows[person].items() if person in group)
            if axiom == "own" and alone != 1:
                return False
        return True
    if axiom == "plain":
        for person in crowd:
            for other in crowd:
                total = sum(ratio for group, ratio in rows[person].items() if other in group)
                if total != int(person == other):
                    return False
        return True
    if axiom == "turned":
        return all(rows[p][group] == -rows[p][everyone - group] for p in crowd for group in proper)
    if axiom == "whole":
        return all(sum(row[group] for row in rows) == int(group == everyone) for group in order_of(many))
    if axiom == "zero":
        return all(rows[p][group] == 0 for p in crowd for group in proper if p not in group)
    raise AssertionError(axiom)


def numbers(seed, low, high, count):
    """Some numbers that are the same in each run."""
    found = []
    for _ in range(count):
        seed = (seed * 6364136223846793005 + 1442695040888963407) % 2 ** 64
        found.append(low + (seed >> 33) % (high - low + 1))
    return found


def some_game(seed, many, limit=3):
    return tuple(numbers(seed, -limit, limit, 2 ** many - 1))


def pair(fraction):
    return (fraction.numerator, fraction.denominator)


def changed(rule, person, index, ratio):
    """The rule with another ratio at one place."""
    rows = [list(ratios) for ratios in rule]
    rows[person][index] = ratio
    return tuple(tuple(row) for row in rows)


def some_rule(seed, many, limit=3):
    items = 2 ** many - 1
    tops = numbers(seed, -limit, limit, many * items)
    bottoms = numbers(seed + 1, 1, limit, many * items)
    pairs = [pair(Fraction(top, bottom)) for top, bottom in zip(tops, bottoms)]
    return tuple(tuple(pairs[person * items:(person + 1) * items]) for person in range(many))
