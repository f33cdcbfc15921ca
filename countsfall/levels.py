"""The rungs and levels of answers, and how far counts have to be looked at."""

from countsfall.counts import check_many


def rungs_of(answers):
    """Return the ascending list of the rungs of some answers."""
    rungs = []
    for answer in answers:
        if answer[0] == "count":
            rungs.extend([answer[2] - 1, answer[2]])
        elif answer[2] is not None:
            rungs.append(answer[2])
    return sorted(set(rungs))


def level_of(rungs, number):
    """Return the index of the level in which a number lies."""
    return len([rung for rung in rungs if rung < number])


def greatest_rank(formula):
    """Return the greatest k of all ranks in a formula."""
    if formula[0] == "rank":
        return formula[2]
    return max([greatest_rank(part) for part in formula[2]])


def depth_of(formulas, answers):
    """Return the depth of some formulas and answers."""
    depths = [1]
    for formula in formulas:
        depths.append(greatest_rank(formula))
    for answer in answers:
        depths.append(greatest_rank(answer[1]) if answer[0] == "is" else answer[3] + 1)
    return max(depths)


def caps_of(house, depth):
    """Return the tuple of the caps of the house by a depth."""
    return tuple([depth if sort[2] is None else min(sort[2], depth) for sort in house])


def checked_caps(house, formulas, answers):
    """Return the caps by some formulas and answers; raise TooMany if there are more than 200 counts within them."""
    caps = caps_of(house, depth_of(formulas, answers))
    check_many(caps)
    return caps
