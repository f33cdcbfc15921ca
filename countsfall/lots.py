"""Which asks are enough to tell a formula always, and which of them are needed."""

from countsfall.always import asks_grid, check_told, tell
from countsfall.counts import Grid, least_lots_by
from countsfall.errors import TooMany
from countsfall.levels import checked_caps
from countsfall.ways import held_in, helds_in

MOST_ASKS = 8


def few_asks_grid(house, asks, formula):
    """Return the grid by the caps of asks and a formula; raise TooMany if there are more than eight asks."""
    if len(asks) > MOST_ASKS:
        raise TooMany(MOST_ASKS)
    return asks_grid(house, asks, formula)


def least_lots_in(grid, helds, held):
    """Return the ascending list of the least lots of asks that hold at helds, for a formula that holds at held."""
    return least_lots_by(len(helds), lambda lot: tell(grid, [helds[index] for index in lot], held))


def least_lots(house, asks, formula):
    """Return the ascending list of the least lots of asks for a formula."""
    grid = few_asks_grid(house, asks, formula)
    return least_lots_in(grid, helds_in(grid, asks), held_in(grid, formula))


def needed_asks(house, asks, formula):
    """Return the dict from each index of asks to "always", "sometimes" or "never", as least lots have it."""
    grid = few_asks_grid(house, asks, formula)
    helds, held = helds_in(grid, asks), held_in(grid, formula)
    check_told(grid, helds, held)
    lots = least_lots_in(grid, helds, held)
    return {index: how_often(lots, index) for index in range(len(asks))}


def how_often(lots, index):
    """Return whether an index is in all lots, in some or in none."""
    many = len([lot for lot in lots if index in lot])
    if many == 0:
        return "never"
    return "always" if many == len(lots) else "sometimes"


def same_always(house, one, other):
    """Return whether each formula of some asks is told always by the other ones, both ways."""
    grid = Grid(house, checked_caps(house, one + other, ()))
    ones, others = helds_in(grid, one), helds_in(grid, other)
    if not all([tell(grid, others, held) for held in ones]):
        return False
    return all([tell(grid, ones, held) for held in others])
