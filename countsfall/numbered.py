"""How many tables fit a case whose numbers lie in a stretch."""

from countsfall.counts import all_counts, are_sizes, strides_of
from countsfall.kinds import mosts_of
from countsfall.ladders import let_levels
from countsfall.levels import level_of, rungs_of


def many_fits(case, low, high):
    """Return how many tables fit a case whose numbers lie all from low to high."""
    house, _, answers = case
    mosts = mosts_of(house)
    rungs = rungs_of(answers)
    known = all_counts(mosts)
    let = [let_levels(case, rungs, counts) for counts in known]
    # Tables by their counts at a number: at low these are the sizes, which they have at all lesser numbers, too.
    lowest = list(range(level_of(rungs, low) + 1))
    many = [1 if are_sizes(house, counts) and are_among(lowest, levels) else 0 for counts, levels in zip(known, let)]
    for number in range(low + 1, high + 1):
        level = level_of(rungs, number)
        sums = sums_from(mosts, many)
        many = [fits if level in levels else 0 for fits, levels in zip(sums, let)]
    # Above high they all have the zero counts, which are the first ones of all.
    highest = list(range(level_of(rungs, high + 1), len(rungs) + 1))
    return sum(many) if are_among(highest, let[0]) else 0


def are_among(levels, let):
    """Return whether all levels are among those that are let."""
    return all([level in let for level in levels])


def sums_from(limits, many):
    """Return for all counts within limits the sum of many over all those that they are within."""
    sums = list(many)
    for stride, limit in zip(strides_of(limits), limits):
        for index in reversed(range(len(sums))):
            if index // stride % (limit + 1) < limit:
                sums[index] += sums[index + stride]
    return sums
