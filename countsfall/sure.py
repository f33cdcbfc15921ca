"""Where the value of a formula can lie in the tables that fit a case."""

from countsfall.errors import NoValue
from countsfall.levels import rungs_of
from countsfall.walks import a_table, fitting_walk
from countsfall.ways import held_in


def all_places(rungs):
    """Return the list of all places by rungs, with None for each gap in which there is no integer.

    A formula has its value in the place with the index k exactly if it holds at step k - 1 and not at step k, the steps
    being: 0 the sizes; 1 the counts at a number of level 0; 2 i and 2 i + 1 those at two such numbers of level i.
    """
    places = [("none",)]
    for low, high in zip([None] + rungs, rungs + [None]):
        has_none = low is not None and high is not None and high - low == 1
        places.append(None if has_none else ("gap", low, high))
        if high is not None:
            places.append(("rung", high))
    return places


def come_at(walk, step):
    """Return the set of what is come to at a step."""
    return walk.starts if step == 0 else walk.reached[step // 2]


def lead_at(walk, step):
    """Return the set of what leads from a step to the last level."""
    return walk.starts & walk.leading[0] if step == 0 else walk.leading[step // 2]


def held_ahead(walk, held, step):
    """Return the set of what is ahead of a step and in held; of everything ahead of the sizes."""
    return walk.grid.full if step == 0 else come_at(walk, step - 1) & held


def ends_at(walk, held, step):
    """Return whether in some table that fits what is in held ends just ahead of a step."""
    grid = walk.grid
    behind = grid.without(lead_at(walk, step), held)
    return grid.below(held_ahead(walk, held, step)) & behind > 0


def places_of(case, formula):
    """Return the list of the places in which the value of a formula lies in tables that fit."""
    walk = fitting_walk(case, (formula,), ())
    held = held_in(walk.grid, formula)
    found = []
    for step, place in enumerate(all_places(rungs_of(case[2]))):
        if place is not None and ends_at(walk, held, step):
            found.append(place)
    return found


def told(case, formula):
    """Return ("sure", value) if all tables that fit give a formula this value, otherwise ("open", places)."""
    places = places_of(case, formula)
    # What lies in a gap between rungs could be either of these, too, so a gap alone is never sure.
    if len(places) > 1 or places[0][0] == "gap":
        return ("open", places)
    return ("sure", None if places[0][0] == "none" else places[0][1])


def is_sure(walk, held):
    """Return whether a formula that holds at the counts in held has the same value in all tables of a walk."""
    return are_sure(walk.occurring, held)


def are_sure(levels, held):
    """Return whether at each level, a set of counts, all are in held, or none."""
    return all([found & held in (0, found) for found in levels])


def levels_behind(grid, levels, held, step):
    """Return the list of the levels behind an answer to an ask that holds at the counts in held.

    Its value lies in the place with the index step. That of a gap parts the level in which it lies.
    """
    up_to = [found & held for found in levels[:(step + 1) // 2]]
    return up_to + [grid.without(found, held) for found in levels[step // 2:]]


def values_in(place):
    """Return the list of two values in a place, of one if it has no other one."""
    if place[0] != "gap":
        return [None if place[0] == "none" else place[1]]
    _, low, high = place
    if low is None:
        return [0, 1] if high is None else [high - 1, high - 2]
    return [number for number in (low + 1, low + 2) if high is None or number < high]


def is_in(place, value):
    """Return whether a value lies in a place."""
    if place[0] != "gap" or value is None:
        return value in values_in(place)
    _, low, high = place
    return (low is None or low < value) and (high is None or value < high)


def table_with(case, formula, value):
    """Return a table that fits and gives a formula a value."""
    fitting_walk(case, (formula,), ())
    house, facts, answers = case
    table = a_table((house, facts, answers + (("is", formula, value),)))
    if table is None:
        raise NoValue(value)
    return table
