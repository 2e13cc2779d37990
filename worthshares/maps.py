"""Maps: the least sets of axioms that clash, and the least sets that leave just one rule."""

from worthshares.axioms import axioms
from worthshares.checks import check_many
from worthshares.games import lies_within
from worthshares.spaces import check_wanted, equations, freedom_of, narrowed


def later(wanted, names):
    """The wanted axioms that come after all of these names, which are ascending."""
    return [axiom for axiom in wanted if not names or names[-1] < axiom]


def is_new(names, found):
    """Whether none of the found sets lies within these names."""
    return not any([lies_within(known, names) for known in found])


def least_sets(many, wanted, sought):
    """The least sets of wanted axioms with the freedom that is sought: None, or 0.

    They are built size by size, each from a smaller set that is kept for this: some rule keeps it,
    and its freedom is not the one that is sought. No other set is part of a greater least one.
    """
    rows = {axiom: equations(many, axiom) for axiom in wanted}
    found = []
    kept = [((), {})]
    while kept:
        longer = []
        for names, solved in kept:
            for axiom in later(wanted, names):
                more = (*names, axiom)
                if not is_new(more, found):
                    continue
                table = narrowed(solved, rows[axiom])
                if freedom_of(many, table) == sought:
                    found.append(more)
                elif table is not None:
                    longer.append((more, table))
        kept = longer
    return tuple(found)


def least_clashes(many):
    """The least sets of axioms that no rule keeps, the smaller ones first."""
    check_many(many)
    return least_sets(many, axioms(), None)


def least_forcing(many):
    """The least sets of axioms that just one rule keeps, the smaller ones first."""
    check_many(many)
    return least_sets(many, axioms(), 0)


def clashes(many, wanted):
    """Those of the least clashes that lie in wanted axioms."""
    check_wanted(many, wanted)
    return least_sets(many, wanted, None)


def forcings(many, wanted):
    """Those of the least forcing sets that lie in wanted axioms."""
    check_wanted(many, wanted)
    return least_sets(many, wanted, 0)
