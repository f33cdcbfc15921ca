"""Formulas held against each other in all tables of a house."""

from countsfall.counts import all_counts, least_sizes
from countsfall.falls import table_of
from countsfall.levels import checked_caps
from countsfall.ways import holds, ways_within


def two_table(house, counts):
    """Return a table that has the number 2 as often as counts tell, and 1 in its other rows."""
    return table_of(house, ((1, least_sizes(house, counts)), (2, counts)))


def are_alike(house, one, other):
    """Return whether two formulas have the same value in each table."""
    return parted_by(house, one, other) is None


def parted_by(house, one, other):
    """Return a table of ones and twos in which two formulas have unlike values, None if there is none."""
    for counts in all_counts(checked_caps(house, (one, other), ())):
        if holds(house, one, counts) != holds(house, other, counts):
            return two_table(house, counts)
    return None


def is_never_above(house, one, other):
    """Return whether in each table the value of one is not greater than that of other."""
    return above_by(house, one, other) is None


def above_by(house, one, other):
    """Return a table of ones and twos in which one is greater than other, None if there is none."""
    for counts in all_counts(checked_caps(house, (one, other), ())):
        if holds(house, one, counts) and not holds(house, other, counts):
            return two_table(house, counts)
    return None


def alike_lots(house, formulas):
    """Return the ascending list of the tuples of the indexes of formulas that are alike to one another."""
    caps = checked_caps(house, formulas, ())
    lots = {}
    for index, formula in enumerate(formulas):
        ways = tuple(ways_within(house, formula, caps))
        lots[ways] = lots.get(ways, ()) + (index,)
    return sorted(list(lots.values()))


def never_above(house, formulas):
    """Return the ascending list of all (i, j) such that the formula i is never above the formula j."""
    caps = checked_caps(house, formulas, ())
    held = [[holds(house, formula, counts) for counts in all_counts(caps)] for formula in formulas]
    pairs = []
    for i, lower in enumerate(held):
        for j, upper in enumerate(held):
            if i != j and all([high or not low for low, high in zip(lower, upper)]):
                pairs.append((i, j))
    return pairs
