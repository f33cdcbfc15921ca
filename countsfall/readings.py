"""How a formula is read from the values of asks that tell it always."""

from countsfall.always import asks_grid, check_told
from countsfall.ways import held_in, helds_in, sets_by


def reading(house, asks, formula):
    """Return the dict from (at sizes, at counts), which tell what asks hold there, to whether a formula holds."""
    grid = asks_grid(house, asks, formula)
    helds, held = helds_in(grid, asks), held_in(grid, formula)
    check_told(grid, helds, held)
    sets = sets_by(grid, helds)
    found = {}
    for at_sizes in sets:
        lesser = grid.below(grid.starts & sets[at_sizes])
        for at_counts in sets:
            if lesser & sets[at_counts] > 0:
                found[(at_sizes, at_counts)] = lesser & sets[at_counts] & held > 0
    return found


def read_by(reading, values):
    """Return the value of a formula by its reading and the values of the asks, None for nothing."""
    at_sizes = tuple([value is not None for value in values])
    for number in sorted([value for value in values if value is not None], reverse=True):
        at_counts = tuple([value is not None and value >= number for value in values])
        if reading.get((at_sizes, at_counts), False):
            return number
    return None
