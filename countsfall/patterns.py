"""Rows of patterns: which asks hold as a number rises."""

from countsfall.counts import Grid
from countsfall.errors import TooMany
from countsfall.kinds import kind_of
from countsfall.levels import checked_caps
from countsfall.tables import sizes_of
from countsfall.walks import Walk, table_with_numbers
from countsfall.ways import helds_in, holds, sets_by

MOST_ROWS = 500


def pattern_of(house, asks, counts):
    """Return the pattern of asks at counts."""
    return tuple([holds(house, ask, counts) for ask in asks])


def row_of(house, asks, table):
    """Return the row of patterns of a table."""
    row = (pattern_of(house, asks, sizes_of(house, table)),)
    for counts in kind_of(house, table) + ((0,) * len(house),):
        pattern = pattern_of(house, asks, counts)
        if pattern != row[-1]:
            row = row + (pattern,)
    return row


def rows_of(house, asks):
    """Return the ascending list of all rows of patterns of tables of the house."""
    grid = Grid(house, checked_caps(house, asks, ()))
    return rows_by(grid, sets_by(grid, helds_in(grid, asks)))


def rows_by(grid, sets):
    """Return the ascending list of all rows of patterns; sets has the set of the counts with each pattern."""
    rows = []
    # Beginnings of rows, with the set of the counts that they lead to. From each one there is a way to the end.
    begun = [((), grid.starts)]
    while begun:
        row, found = begun.pop()
        if row and not any(row[-1]):
            rows.append(row)
            if len(rows) > MOST_ROWS:
                raise TooMany(MOST_ROWS)
        else:
            begun.extend(next_rows(grid, sets, row, found))
    return sorted(rows)


def next_rows(grid, sets, row, found):
    """Return the list of the beginnings of rows that are one pattern longer."""
    lesser = grid.below(found)
    longer = []
    for pattern in sets:
        # The first pattern is that at the sizes; no other one is like that ahead of it.
        members = sets[pattern] & (lesser if row else found)
        if members > 0 and row[-1:] != (pattern,):
            longer.append((row + (pattern,), members))
    return longer


def table_by(house, asks, row):
    """Return a table with a row of patterns and with as few numbers as it has, from 1 on; None if no table has it."""
    grid = Grid(house, checked_caps(house, asks, ()))
    sets = sets_by(grid, helds_in(grid, asks))
    if len(row) == 0 or any(row[-1]) or any([one == other for one, other in zip(row, row[1:])]):
        return None
    walk = Walk(grid, [sets.get(pattern, 0) for pattern in row])
    if walk.reached[-1] == 0:
        return None
    return table_with_numbers(walk, list(range(1, max(len(row), 2))))
