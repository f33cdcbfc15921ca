"""What the greatest numbers of lots tell of cells, by the lots alone."""

from countsfall.houses import names_of


def lot_asks(lots):
    """Return the tuple of the formulas that ask for the greatest number of each lot."""
    return tuple([("rank", lot, 1) for lot in lots])


def is_union(lots, lot):
    """Return whether some of the lots together are just lot."""
    parts = [part for part in lots if all([name in lot for name in part])]
    return all([any([name in part for part in parts]) for name in lot])


def lots_with(lots, name):
    """Return the list of those lots in which a cell stands."""
    return [lot for lot in lots if name in lot]


def shadows_of(lots, name):
    """Return the ascending tuple of the other cells that stand in some lots, and in none without this one."""
    others = sorted({other for lot in lots for other in lot if other != name})
    return tuple([other for other in others if all([name in lot for lot in lots_with(lots, other)])])


def best_sometimes(lots, lot):
    """Return whether the greatest number of lot is told in some table."""
    if not all([lots_with(lots, name) for name in lot]):
        return False
    return any([has_no_shadow_outside(lots, lot, name) for name in lot])


def has_no_shadow_outside(lots, lot, name):
    """Return whether in some lot in which a cell stands there is no shadow of it that is outside lot."""
    outside = [shadow for shadow in shadows_of(lots, name) if shadow not in lot]
    return any([not any([shadow in part for shadow in outside]) for part in lots_with(lots, name)])


def safe_cells(house, lots):
    """Return the ascending tuple of the cells that are told in no table."""
    return tuple([name for name in names_of(house) if is_safe(lots, name)])


def is_safe(lots, name):
    """Return whether a cell has a shadow in each lot in which it stands."""
    shadows = shadows_of(lots, name)
    return all([any([shadow in lot for shadow in shadows]) for lot in lots_with(lots, name)])
