"""Whether asks tell a formula always, and two tables that show it if they do not."""

from countsfall.counts import Grid, are_sizes, least_sizes, within
from countsfall.errors import NotTold
from countsfall.falls import table_of
from countsfall.forms import is_counts
from countsfall.levels import checked_caps
from countsfall.ways import held_in, helds_in, holds, sets_by


def pair_table(house, pair):
    """Return the table of a pair."""
    sizes, counts = pair
    return table_of(house, ((1, sizes), (2, counts)))


def asks_grid(house, asks, formula):
    """Return the grid by the caps of asks and a formula."""
    return Grid(house, checked_caps(house, asks + (formula,), ()))


def tells_always(house, asks, formula):
    """Return whether asks tell a formula always."""
    return always_pairs(house, asks, formula) is None


def always_pairs(house, asks, formula):
    """Return two pairs that the asks do not tell apart though the formula does, None if there are none."""
    grid = asks_grid(house, asks, formula)
    return parted_pairs(grid, helds_in(grid, asks), held_in(grid, formula))


def parted_pairs(grid, helds, held):
    """Return two pairs in whose tables asks have the same values and a formula has not, None if there are none.

    The asks hold at the counts in helds, a set for each, the formula at those in held.
    """
    classes = list(sets_by(grid, helds).values())
    for alike in classes:
        # Sizes are among the counts within them, so those that the formula tells apart are found, too.
        starts = grid.starts & alike
        lesser = grid.below(starts)
        for counts in classes:
            found = lesser & counts
            if found & held not in (0, found):
                return (pair_over(grid, starts, found & held), pair_over(grid, starts, grid.without(found, held)))
    return None


def tell(grid, helds, held):
    """Return whether asks that hold at helds tell always a formula that holds at held."""
    return parted_pairs(grid, helds, held) is None


def check_told(grid, helds, held):
    """Raise NotTold if asks that hold at helds do not tell always a formula that holds at held."""
    pairs = parted_pairs(grid, helds, held)
    if pairs is not None:
        raise NotTold(pairs)


def pair_over(grid, starts, found):
    """Return a pair with counts out of found, and with sizes out of starts that they are within."""
    counts = grid.first(found)
    sizes = grid.first(starts & grid.above(grid.set_of(counts)))
    return (least_sizes(grid.house, sizes), counts)


def is_pair(house, thing):
    """Return whether thing is a pair of the house."""
    if not isinstance(thing, tuple) or len(thing) != 2 or not all([is_counts(house, counts) for counts in thing]):
        return False
    return are_sizes(house, thing[0]) and within(thing[1], thing[0])


def are_parted(house, formula, one, other):
    """Return whether a formula has unlike values in the tables of two pairs."""
    return [holds(house, formula, counts) for counts in one] != [holds(house, formula, counts) for counts in other]


def are_always_pairs(house, asks, formula, thing):
    """Return whether thing is two pairs that the asks do not tell apart though the formula does."""
    if not isinstance(thing, tuple) or len(thing) != 2 or not all([is_pair(house, pair) for pair in thing]):
        return False
    one, other = thing
    if any([are_parted(house, ask, one, other) for ask in asks]):
        return False
    return are_parted(house, formula, one, other)
