"""How the counts of a table fall as a number rises."""

from countsfall.counts import are_sizes, within
from countsfall.forms import is_counts, is_integer
from countsfall.houses import names_of
from countsfall.tables import all_numbers, count_at_least


def counts_at(house, table, number):
    """Return the counts of a table at a number."""
    return tuple([count_at_least(house, table, (name,), number) for name in names_of(house)])


def are_falling(house, thing):
    """Return whether thing is a tuple of counts that fall from sizes that the house lets and are nowhere zero."""
    if not isinstance(thing, tuple) or not all([is_counts(house, counts) for counts in thing]):
        return False
    sizes = thing[0] if len(thing) > 0 else (0,) * len(house)
    if not are_sizes(house, sizes) or not all([any(counts) for counts in thing]):
        return False
    return all([within(low, high) and low != high for high, low in zip(thing, thing[1:])])


def is_fall(house, thing):
    """Return whether thing is a fall of the house."""
    if not isinstance(thing, tuple):
        return False
    for step in thing:
        if not isinstance(step, tuple) or len(step) != 2 or not is_integer(step[0]):
            return False
    if not all([one[0] < other[0] for one, other in zip(thing, thing[1:])]):
        return False
    return are_falling(house, tuple([step[1] for step in thing]))


def fall_of(house, table):
    """Return the fall of a table."""
    return tuple([(number, counts_at(house, table, number)) for number in all_numbers(table)])


def table_of(house, fall):
    """Return the table whose fall this is."""
    table = {}
    for place, name in enumerate(names_of(house)):
        behind = [counts[place] for _, counts in fall[1:]] + [0]
        numbers = []
        for (number, counts), left in zip(fall, behind):
            numbers.extend([number] * (counts[place] - left))
        table[name] = tuple(numbers)
    return table
