"""What formulas behind a script tell of the table ahead of it."""

from countsfall.acts import all_behind, marks_of
from countsfall.counts import least_sizes, strides_of
from countsfall.errors import Never, NoDeed
from countsfall.levels import greatest_rank
from countsfall.scripts import counts_to_reach, numbers_by, table_at
from countsfall.ways import holds, ways_formula


def check_none_comes(steps):
    """Raise NoDeed if by some deed a row comes."""
    for index, step in enumerate(steps):
        if step[0] == "come":
            raise NoDeed(index)


def formula_before(house, script, formula):
    """Return a formula with the value that this one has behind a script, None if that is nothing in all tables."""
    check_none_comes(script)
    known = counts_to_reach(house, (script,), [greatest_rank(formula)])
    # No row comes, so at each number the script makes the same of counts.
    ways = least_of_rising(known, truths_of(house, formula, all_behind(house, script, 0, known)))
    return ways_formula(house, tuple(ways)) if ways else None


def truths_of(house, formula, some):
    """Return the list that tells of each of some counts, which may stand there often, whether a formula holds."""
    truths = {}
    for counts in some:
        if counts not in truths:
            truths[counts] = holds(house, formula, counts)
    return [truths[counts] for counts in some]


def least_of_rising(known, truths):
    """Return the list of those of all counts within some limits that are true, while no other ones within them are.

    Whatever has true counts within it is true, too.
    """
    strides = strides_of(known[-1])
    least = []
    for index, counts in enumerate(known):
        if truths[index] and not any([many > 0 and truths[index - step] for many, step in zip(counts, strides)]):
            least.append(counts)
    return least


def lost_tables(house, script, formula):
    """Return two tables of which a script makes the same though a formula has unlike values, None if there are none."""
    known = counts_to_reach(house, (script,), [greatest_rank(formula)])
    truths = truths_of(house, formula, known)
    for number in numbers_by(marks_of(script)):
        seen = {}
        for counts, image, truth in zip(known, all_behind(house, script, number, known), truths):
            other, other_truth = seen.setdefault(image, (counts, truth))
            if truth != other_truth:
                return tables_apart(house, number, other, counts)
    return None


def tables_apart(house, number, one, other):
    """Return two tables of equal sizes, with no numbers but this one and that below it, and with these counts at it."""
    sizes = least_sizes(house, [max(many, more) for many, more in zip(one, other)])
    return (table_at(house, number, sizes, one), table_at(house, number, sizes, other))


def case_before(house, facts, steps):
    """Return the case of the first table by its facts, and by answers behind the deeds that stand ahead of each."""
    check_none_comes(steps)
    found = []
    script = ()
    for index, step in enumerate(steps):
        if step[0] == "is":
            found.append((index, formula_before(house, script, step[1]), step[2]))
        else:
            script = script + (step,)
    answers = []
    for index, formula, value in found:
        if formula is not None:
            answers.append(("is", formula, value))
        elif value is not None:
            raise Never(index)
    return (house, facts, tuple(answers))
