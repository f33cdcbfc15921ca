"""Divisions of all counts of a firm house into classes, and whether they come about by asks."""

from countsfall.closed import classes_by
from countsfall.counts import Grid, all_counts, firm_sizes
from countsfall.errors import HasRing
from countsfall.forms import is_counts
from countsfall.ways import ways_formula


def firm_grid(house):
    """Return the grid of all counts within the sizes of a firm house."""
    return Grid(house, firm_sizes(house))


def sets_of(grid, classes):
    """Return the list of the sets of counts that are the classes."""
    return [grid.set_of_all(part) for part in classes]


def union_of(sets):
    """Return the set of all that is in some of sets, of which no two have anything in common."""
    return sum(sets)


def division_by(grid, sets):
    """Return the division with these sets as its classes."""
    return tuple(sorted([tuple(grid.listed(found)) for found in sets]))


def division_of(house, asks):
    """Return the division in which two counts stand in one class exactly if the same of asks hold at them."""
    grid = firm_grid(house)
    return division_by(grid, classes_by(grid, asks))


def is_class(house, thing):
    """Return whether thing is an ascending tuple of counts of the house, at least one."""
    if not isinstance(thing, tuple) or len(thing) == 0 or not all([is_counts(house, counts) for counts in thing]):
        return False
    return all([one < other for one, other in zip(thing, thing[1:])])


def is_division(house, thing):
    """Return whether thing is a division of the house."""
    known = all_counts(firm_sizes(house))
    if not isinstance(thing, tuple) or not all([is_class(house, part) for part in thing]):
        return False
    if not all([one < other for one, other in zip(thing, thing[1:])]):
        return False
    return sorted([counts for part in thing for counts in part]) == known


def top_down(grid, sets):
    """Return the list of the indexes of sets, from the top down, and the list of those that cannot be ordered so.

    None of the former has counts that are within some of a later set. Each of the latter has counts that are within
    some of another one of these.
    """
    overs = [grid.without(grid.above(found), found) for found in sets]
    order, left = [], list(range(len(sets)))
    tops = tops_of(sets, overs, left)
    while tops:
        order.extend(tops)
        left = [index for index in left if index not in tops]
        tops = tops_of(sets, overs, left)
    return order, left


def tops_of(sets, overs, left):
    """Return the list of those of left, indexes of sets, over which there is nothing of the others of left."""
    found = union_of([sets[index] for index in left])
    return [index for index in left if overs[index] & found == 0]


def ring_in(grid, sets):
    """Return the list of the indexes of sets that are a ring, None if there is none."""
    _, left = top_down(grid, sets)
    if not left:
        return None
    path = []
    index = left[0]
    while index not in path:
        path.append(index)
        over = grid.above(sets[index])
        index = [other for other in left if other != path[-1] and over & sets[other] > 0][0]
    return path[path.index(index):]


def ring_of(house, division):
    """Return a ring of a division, None if there is none."""
    grid = firm_grid(house)
    ring = ring_in(grid, sets_of(grid, division))
    return None if ring is None else tuple([division[index] for index in ring])


def is_ring(house, division, thing):
    """Return whether thing is a ring of a division."""
    grid = firm_grid(house)
    if not isinstance(thing, tuple) or len(thing) < 2:
        return False
    if not all([is_class(house, part) and part in division for part in thing]) or len(set(thing)) < len(thing):
        return False
    sets = sets_of(grid, thing)
    return all([grid.above(one) & other > 0 for one, other in zip(sets, sets[1:] + sets[:1])])


def asks_of(house, division):
    """Return asks by which a division without ring comes about."""
    grid = firm_grid(house)
    ring = ring_of(house, division)
    if ring is not None:
        raise HasRing(ring)
    sets = sets_of(grid, division)
    order, _ = top_down(grid, sets)
    asks = []
    held = 0
    # The class with the zero counts comes last: no formula holds there.
    for index in order[:-1]:
        held = held | sets[index]
        asks.append(ways_formula(house, tuple(grid.least(held))))
    return tuple(asks)


def refined(house, one, other):
    """Return the division whose classes are what a class of one and a class of other have in common."""
    grid = firm_grid(house)
    others = sets_of(grid, other)
    return division_by(grid, [found & part for found in sets_of(grid, one) for part in others if found & part > 0])


def merged(sets, indexes):
    """Return the list of disjoint sets in which those with these indexes have become one."""
    kept = [found for index, found in enumerate(sets) if index not in indexes]
    return kept + [union_of([sets[index] for index in indexes])]


def joined_up(house, division, couples):
    """Return the finest division without ring that is made of whole classes, with the counts of each couple in one."""
    grid = firm_grid(house)
    sets = sets_of(grid, division)
    for one, other in couples:
        both = grid.set_of(one) | grid.set_of(other)
        sets = merged(sets, [index for index, found in enumerate(sets) if found & both > 0])
    ring = ring_in(grid, sets)
    while ring is not None:
        sets = merged(sets, ring)
        ring = ring_in(grid, sets)
    return division_by(grid, sets)
