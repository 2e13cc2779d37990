"""Wrong values of all kinds, and how to ask for the error that they should bring."""

from worthshares.errors import BadGame, BadRule

NOT_MANY = (1, 5, 0, -2, 100, True, False, None, "2", "", (2,), [3], {}, {2: 2}, ())

NOT_TEXT = (None, True, False, 0, 123, (), ("0", "0", "0"), (0, 0, 0), [], ["0 0 0"], {}, {"0 0 0": 1})
# None of these is an integer from -1000 to 1000 without needless signs.
NOT_WORTHS = (
    "", "-", "--1", "+1", "+0", "-0", "00", "01", "-01", "0001", "1001", "-1001", "01000", "10000", "99999", "-10000",
    "9" * 5000, "0" * 5000, "1_0", "1.0", "1.", ".5", "1e2", "0x1", "x", "one", "None", "True", "1-", "1+1", "1/2",
    "\u0661", "1\u0662", "\u00b2", "\uff11", "\u2212" + "1", "1,", "'1'", "(1)", "1\n", "\t1", "\u00a01", "1\x00",
)
NOT_WANTED = (
    None, True, 0, 3, "", "flat", [], ["flat"], {}, {"flat": 1}, ("fair",), ("",), ("Flat",), ("flat ",),
    ("own", "flat"), ("flat", "flat"), ("alike", "own", "flat"), ("alike", "alike", "own"), ("alike", "fair"),
    ("flat", None), (None,), (0,), (True,), (("flat",),), (["flat"],), ({},), ("flat", 3), (3, "flat"), ("alike", []),
    ("alike", "ends", "equal", "flat", "idle", "last", "own", "plain", "turned", "whole", "zero", "zero"),
)


def expect(case, kind, call, *arguments):
    """The error that the call raises has this very class, and it is handed on."""
    try:
        got = call(*arguments)
    except kind as error:
        case.assertIs(type(error), kind)
        return error
    case.fail(f"{call.__name__}{arguments!r} is {got!r}")


def expect_bad_game(case, index, call, *arguments):
    error = expect(case, BadGame, call, *arguments)
    case.assertEqual((error.index, type(error.index)), (index, type(index)), arguments)


def expect_bad_rule(case, person, index, call, *arguments):
    error = expect(case, BadRule, call, *arguments)
    case.assertEqual((error.person, error.index), (person, index), arguments)


def bad_games():
    """Pairs of a value that is no game and the index that its error tells."""
    whole = [None, True, 3, "", "123", [0, 0, 0], {}, {0: 1, 1: 1, 2: 1}, (), (0,), (0, 0), (0,) * 4]
    whole += [(0,) * 6, (0,) * 8, (0,) * 14, (0,) * 16, (0,) * 31, ("x",) * 5]
    found = [(value, None) for value in whole]
    for item in (1001, -1001, 10 ** 30, True, False, None, "0", (0,), [], {}):
        for size in (3, 7, 15):
            for index in (0, 1, size - 1):
                game = [5] * size
                game[index] = item
                found.append((tuple(game), index))
    found.append(((0, 1001, True), 1))
    found.append(((0, 0, "x", 0, 0, -1001, []), 2))
    return found


def bad_rules():
    """Triples of a value that is no rule, and the person and the index that its error tells."""
    two, three = ((0, 1),) * 3, ((0, 1),) * 7
    found = []
    for value in (None, 0, True, "ab", [two, two], {0: two, 1: two}, (), (two,), (two,) * 5, [None], (1,) * 7):
        found.append((value, None, None))
    for ratios in (None, 3, "abc", list(two), {}, (), two[:2], two + two[:1], three):
        found.append(((ratios, two), 0, None))
        found.append(((two, ratios), 1, None))
    found.append(((two, two, two), 0, None))
    found.append(((three, three, two), 2, None))
    found.append(((three, ((0, 1),) * 15, three), 1, None))
    found.append(((((0, 2), (0, 1), (0, 1)), ()), 1, None))
    ratios = [(0, 2), (2, 4), (-3, 9), (1, 0), (0, 0), (1, -1), (0, -1), (10 ** 12 + 1, 1), (-10 ** 12 - 1, 1)]
    ratios += [(1, 10 ** 12 + 1), (True, 1), (1, True), (False, 1), ("1", 1), (1, "1"), (None, 1), (1, None)]
    ratios += [(1,), (1, 1, 1), (), [1, 1], "11", 1, 0, None, True, {}, {1: 1, 2: 2}, ((1, 1), 1), (1, [1])]
    for ratio in ratios:
        for person in (0, 1, 2):
            for index in (0, 3, 6):
                row = list(three)
                row[index] = ratio
                rule = [three] * 3
                rule[person] = tuple(row)
                found.append((tuple(rule), person, index))
    found.append((((two[0], two[0], (2, 2)), ((2, 2), two[0], two[0])), 0, 2))
    found.append((((two[0], None, (2, 2)), two), 0, 1))
    return found
