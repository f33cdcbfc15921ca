"""Which asks together tell a secret in no table, and which in some."""

from itertools import combinations

from countsfall.always import asks_grid
from countsfall.counts import has_part, is_part, least_lots_by
from countsfall.errors import TooMany
from countsfall.patterns import rows_by
from countsfall.sometimes import sure_rows
from countsfall.ways import held_in, helds_in, sets_by

MOST_ASKS = 6


def loud_lots(house, asks, secret):
    """Return the ascending list of the least lots of asks that tell a secret in some table."""
    if len(asks) > MOST_ASKS:
        raise TooMany(MOST_ASKS)
    grid = asks_grid(house, asks, secret)
    helds, held = helds_in(grid, asks), held_in(grid, secret)
    # This raises TooMany if all asks together have too many rows; fewer asks have no more.
    rows_by(grid, sets_by(grid, helds))
    return least_lots_by(len(asks), lambda lot: len(sure_rows(grid, [helds[index] for index in lot], held)) > 0)


def silent_lots(house, asks, secret):
    """Return the ascending list of the lots of asks that tell a secret in no table and lie in no other such lot."""
    loud = loud_lots(house, asks, secret)
    lots = [lot for size in range(len(asks) + 1) for lot in combinations(range(len(asks)), size)]
    silent = [lot for lot in lots if not has_part(lot, loud)]
    return sorted([lot for lot in silent if not any([lot != other and is_part(lot, other) for other in silent])])
