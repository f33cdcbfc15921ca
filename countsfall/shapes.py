"""What a formula comes down to: the sorts that matter, its told form, its turned form."""

from countsfall.counts import all_counts, firm_sizes
from countsfall.errors import IsNothing
from countsfall.houses import names_of
from countsfall.levels import caps_of, depth_of
from countsfall.ways import holds, least_of, ways_formula, ways_of


def matters(house, formula):
    """Return the ascending tuple of the names of the sorts whose rows can change the value of a formula."""
    ways = ways_of(house, formula)
    return tuple([name for place, name in enumerate(names_of(house)) if any([way[place] > 0 for way in ways])])


def settled_formula(house, formula):
    """Return the told form of the ways of a formula."""
    return ways_formula(house, tuple(ways_of(house, formula)))


def can_be_nothing(house, formula):
    """Return whether a formula is nothing in some table."""
    return not holds(house, formula, tuple([sort[1] for sort in house]))


def can_be_something(house, formula):
    """Return whether a formula is an integer in some table."""
    # More rows of a sort than its cap do not make a formula hold that does not hold at the caps.
    return holds(house, formula, caps_of(house, depth_of((formula,), ())))


def turned_table(table):
    """Return the table in which each number x is 0 - x."""
    return {name: tuple([0 - number for number in reversed(table[name])]) for name in sorted(table)}


def turned_formula(house, formula):
    """Return, in told form, the formula whose value in turned tables is 0 less the value of this one."""
    sizes = firm_sizes(house)
    if not holds(house, formula, sizes):
        raise IsNothing()
    found = [counts for counts in all_counts(sizes) if not holds(house, formula, left_of(sizes, counts))]
    return ways_formula(house, tuple(least_of(found)))


def left_of(sizes, counts):
    """Return what is left of sizes without counts."""
    return tuple([size - many for size, many in zip(sizes, counts)])
