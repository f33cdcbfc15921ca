"""What several modules need of counts: tuples that have an integer for each sort of a house."""

from countsfall.errors import TooMany

MOST_COUNTS = 200


def within(one, other):
    """Return whether no item of one is greater than that of other."""
    return all([few <= many for few, many in zip(one, other)])


def all_counts(limits):
    """Return the ascending list of all counts within limits."""
    found = [()]
    for limit in limits:
        found = [counts + (many,) for counts in found for many in range(limit + 1)]
    return found


def check_many(limits):
    """Raise TooMany if there are more than 200 counts within limits."""
    many = 1
    for limit in limits:
        many = many * (limit + 1)
    if many > MOST_COUNTS:
        raise TooMany(MOST_COUNTS)


def lets(sort, many):
    """Return whether a sort may have so many rows."""
    _, least, most = sort
    return least <= many and (most is None or many <= most)


def are_sizes(house, counts):
    """Return whether some table of the house has counts as its sizes."""
    return all([lets(sort, many) for sort, many in zip(house, counts)])


def rows_of_lot(house, lot, counts):
    """Return how many rows the sorts of a lot have together by counts."""
    return sum([many for sort, many in zip(house, counts) if sort[0] in lot])
