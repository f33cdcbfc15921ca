"""Whether asks tell a formula in one table, or in some."""

from countsfall.always import asks_grid
from countsfall.patterns import rows_by, table_by
from countsfall.sure import is_sure, table_with, told, values_in
from countsfall.tables import value_of
from countsfall.walks import Walk
from countsfall.ways import held_in, helds_in, sets_by


def case_in(house, asks, table):
    """Return the case in which the asks have the same values as in a table."""
    return (house, (), tuple([("is", ask, value_of(house, table, ask)) for ask in asks]))


def is_told_in(house, asks, formula, table):
    """Return whether asks tell a formula in a table."""
    return told(case_in(house, asks, table), formula)[0] == "sure"


def apart_in(house, asks, formula, table):
    """Return a table with the same values of asks as this one and another one of a formula, None if it is told."""
    case = case_in(house, asks, table)
    kind, found = told(case, formula)
    if kind == "sure":
        return None
    own = value_of(house, table, formula)
    others = [value for place in found for value in values_in(place) if value != own]
    return table_with(case, formula, others[0])


def row_walk(grid, sets, row):
    """Return the walk through the sets of counts with the patterns of a row."""
    return Walk(grid, [sets[pattern] for pattern in row])


def told_rows(house, asks, formula):
    """Return the ascending list of the rows of patterns in whose tables asks tell a formula."""
    grid = asks_grid(house, asks, formula)
    sets = sets_by(grid, helds_in(grid, asks))
    held = held_in(grid, formula)
    return [row for row in rows_by(grid, sets) if is_sure(row_walk(grid, sets, row), held)]


def tells_sometimes(house, asks, formula):
    """Return a table with as few different numbers as can be in which asks tell a formula, None if there is none."""
    rows = told_rows(house, asks, formula)
    return table_by(house, asks, min(rows, key=len)) if rows else None
