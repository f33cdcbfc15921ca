"""Whether two scripts make the same of all tables of a house."""

from countsfall.acts import all_behind, marks_of
from countsfall.counts import all_counts, least_sizes
from countsfall.errors import TooMany
from countsfall.falls import table_of
from countsfall.levels import caps_of

MOST_COUNTS = 20000


def ranks_in(script):
    """Return the list of the k of all deeds that have one."""
    return [deed[2] for deed in script if deed[0] in ("go", "move", "keep")]


def counts_to_reach(house, scripts, ranks):
    """Return the ascending list of all counts up to the reach of scripts and further ranks; raise TooMany beyond it."""
    deeds = max([len(script) for script in scripts])
    all_ranks = [0] + ranks + [k for script in scripts for k in ranks_in(script)]
    limits = caps_of(house, 1 + deeds + max(all_ranks))
    many = 1
    for limit in limits:
        many = many * (limit + 1)
    if many > MOST_COUNTS:
        raise TooMany(MOST_COUNTS)
    return all_counts(limits)


def numbers_by(marks):
    """Return the list of a number for each stretch by an ascending list of marks."""
    return marks + [marks[-1] + 1] if marks else [0]


def same_acts(house, one, other):
    """Return whether two scripts make the same of all tables of the house."""
    return parted_table(house, one, other) is None


def parted_table(house, one, other):
    """Return a table of which two scripts make unlike ones, None if there is none."""
    known = counts_to_reach(house, (one, other), [])
    for number in numbers_by(marks_of(one + other)):
        ones, others = all_behind(house, one, number, known), all_behind(house, other, number, known)
        for counts, by_one, by_other in zip(known, ones, others):
            if by_one != by_other:
                return table_at(house, number, least_sizes(house, counts), counts)
    return None


def table_at(house, number, sizes, counts):
    """Return the table of these sizes that has these counts at a number, and the one below it in its other rows."""
    return table_of(house, ((number - 1, sizes), (number, counts)))
