"""What the answer to a further ask would tell of a case."""

from countsfall.errors import NoValue
from countsfall.levels import rungs_of
from countsfall.sure import all_places, are_sure, is_in, levels_behind, places_of, values_in
from countsfall.walks import Walk, fitting_walk, walk_by
from countsfall.ways import held_in


def branches(case, ask):
    """Return the list of (place, value) for all places of an ask, with one value for all that lie in a place."""
    return [(place, values_in(place)[0]) for place in places_of(case, ask)]


def answered(case, ask, value):
    """Return a case with one more answer: the value of an ask."""
    house, facts, answers = case
    return (house, facts, answers + (("is", ask, value),))


def behind(case, ask, value):
    """Return the case behind an answer to an ask."""
    if not any([is_in(place, value) for place in places_of(case, ask)]):
        raise NoValue(value)
    return answered(case, ask, value)


def settled_branches(case, ask, formula):
    """Return the list of (place, value, value of the formula) for those branches of an ask that settle a formula."""
    fitting_walk(case, (ask,), ())
    # Each case behind a branch has the caps of this walk: the ask is among its answers.
    walk = walk_by(case, (ask, formula), ())
    grid = walk.grid
    asked, held = held_in(grid, ask), held_in(grid, formula)
    rungs = rungs_of(case[2])
    found = []
    for step, place in enumerate(all_places(rungs)):
        levels = Walk(grid, levels_behind(grid, walk.occurring, asked, step)).occurring
        if place is not None and levels[-1] > 0 and are_sure(levels, held):
            value = values_in(place)[0]
            further = rungs if value is None else sorted(set(rungs + [value]))
            found.append((place, value, sure_value(further, levels, held)))
    return found


def sure_value(rungs, levels, held):
    """Return the value that a formula has for sure: the greatest integer of the levels at which it holds."""
    many = len([found for found in levels if found & held > 0])
    return None if many == 0 else rungs[many - 1]


def settling(case, ask, formula):
    """Return the list of those of the branches of an ask whose value settles a formula."""
    return [(place, value) for place, value, _ in settled_branches(case, ask, formula)]


def next_asks(case, asks, formula):
    """Return the indexes of the asks all of whose branches settle a formula, and of those of which some branch does."""
    by_all, by_some = [], []
    for index, ask in enumerate(asks):
        settled = settling(case, ask, formula)
        if len(settled) > 0:
            by_some.append(index)
        if len(settled) == len(branches(case, ask)):
            by_all.append(index)
    return (tuple(by_all), tuple(by_some))
