"""What follows from answers, and from which of them."""

from countsfall.counts import least_lots_by
from countsfall.errors import NotSure, TooMany
from countsfall.ladders import ladder_sets
from countsfall.levels import rungs_of
from countsfall.sure import is_sure, places_of
from countsfall.walks import Walk, fitting_walk
from countsfall.ways import held_in

MOST_ANSWERS = 6


def is_right_always(walk, levels):
    """Return whether all that occurs on a walk is let at the levels."""
    return all([walk.grid.without(found, level) == 0 for found, level in zip(walk.occurring, levels)])


def follows(case, answer):
    """Return whether a further answer is right of all tables that fit a case."""
    walk = fitting_walk(case, (), (answer,))
    levels = ladder_sets(walk.grid, (case[0], (), (answer,)), rungs_of(case[2] + (answer,)))
    return is_right_always(walk, levels)


class Parts:
    """The ladder of a case by its parts: what its facts let, and what each of its answers lets."""

    def __init__(self, case, grid):
        house, facts, answers = case
        rungs = rungs_of(answers)
        self.grid = grid
        self.by_facts = ladder_sets(grid, (house, facts, ()), rungs)
        self.by_answers = [ladder_sets(grid, (house, (), (answer,)), rungs) for answer in answers]

    def walk_with(self, lot):
        """Return the walk by the facts and the answers with the indexes in lot."""
        levels = self.by_facts
        for index in lot:
            levels = [level & let for level, let in zip(levels, self.by_answers[index])]
        return Walk(self.grid, levels)


def needless_answers(case):
    """Return the ascending list of the indexes of the answers that each follow from all the others."""
    parts = Parts(case, fitting_walk(case, (), ()).grid)
    indexes = range(len(case[2]))
    needless = []
    for index in indexes:
        walk = parts.walk_with([other for other in indexes if other != index])
        if is_right_always(walk, parts.by_answers[index]):
            needless.append(index)
    return needless


def least_answers(case, formula):
    """Return the ascending list of the least lots of answers from which the value of a formula follows."""
    many = len(case[2])
    if many > MOST_ANSWERS:
        raise TooMany(MOST_ANSWERS)
    walk = fitting_walk(case, (formula,), ())
    held = held_in(walk.grid, formula)
    if not is_sure(walk, held):
        raise NotSure(places_of(case, formula))
    parts = Parts(case, walk.grid)
    return least_lots_by(many, lambda lot: is_sure(parts.walk_with(lot), held))
