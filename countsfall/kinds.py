"""Kinds of tables: falls without their numbers."""

from countsfall.counts import all_counts, are_sizes, check_many, within
from countsfall.errors import IsOpen, TooMany
from countsfall.falls import are_falling, fall_of, table_of
from countsfall.ways import holds

MOST_KINDS = 2000


def kind_of(house, table):
    """Return the kind of a table."""
    return tuple([counts for _, counts in fall_of(house, table)])


def is_kind(house, thing):
    """Return whether thing is a kind of the house."""
    return are_falling(house, thing)


def with_numbers(house, kind, numbers):
    """Return the table of a kind that has these numbers."""
    return table_of(house, tuple(zip(numbers, kind)))


def value_place(house, kind, formula):
    """Return the index of the counts of a kind whose number is the value of a formula, None for nothing."""
    held = [place for place, counts in enumerate(kind) if holds(house, formula, counts)]
    return held[-1] if held else None


def coarser_kinds(house, kind):
    """Return the ascending list of all kinds that come about if numbers that follow one another are made equal."""
    found = [kind[:1]]
    for counts in kind[1:]:
        found = found + [coarser + (counts,) for coarser in found]
        if len(found) > MOST_KINDS:
            raise TooMany(MOST_KINDS)
    return sorted(found)


def is_coarser(house, one, other):
    """Return whether one is among the coarser kinds of other."""
    return one[:1] == other[:1] and all([counts in other for counts in one])


def mosts_of(house):
    """Return the greatest sizes of a house that is not open and has few counts; raise IsOpen or TooMany otherwise."""
    for name, _, most in house:
        if most is None:
            raise IsOpen(name)
    mosts = tuple([sort[2] for sort in house])
    check_many(mosts)
    return mosts


def next_counts(known, counts):
    """Return the list of those of known, all of them other ones, that may follow counts in a fall."""
    return [lesser for lesser in known if within(lesser, counts)]


def kinds_many(house):
    """Return how many kinds a house has."""
    # By counts: how many kinds begin with them. The zero counts begin the kind () alone.
    many = {}
    for counts in all_counts(mosts_of(house)):
        many[counts] = sum([many[lesser] for lesser in next_counts(list(many), counts)]) if any(counts) else 1
    return sum([many[counts] for counts in many if are_sizes(house, counts)])


def all_kinds(house):
    """Return the ascending list of all kinds of a house."""
    if kinds_many(house) > MOST_KINDS:
        raise TooMany(MOST_KINDS)
    kinds = {}
    for counts in all_counts(mosts_of(house)):
        kinds[counts] = kinds_from(kinds, counts)
    return sorted([kind for counts in kinds if are_sizes(house, counts) for kind in kinds[counts]])


def kinds_from(kinds, counts):
    """Return the list of the kinds that begin with counts, given those that begin with lesser ones."""
    if not any(counts):
        return [()]
    return [(counts,) + kind for lesser in next_counts(list(kinds), counts) for kind in kinds[lesser]]


def tables_many(house, low, high):
    """Return how many tables of a house have all their numbers from low to high."""
    mosts_of(house)
    many = 1
    for sort in house:
        many = many * rows_many(sort, high - low + 1)
    return many


def rows_many(sort, numbers):
    """Return in how many ways the rows of a sort can have their numbers, out of so many numbers."""
    _, least, most = sort
    many = 0
    lots = 1
    for size in range(most + 1):
        if size >= least:
            many += lots
        # From the lots of size rows, equal numbers allowed, to those of one row more.
        lots = lots * (numbers + size) // (size + 1)
    return many
