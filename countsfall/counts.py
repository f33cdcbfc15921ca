"""What several modules need of counts: tuples that have an integer for each sort of a house."""

from itertools import combinations

from countsfall.errors import NotFirm, TooMany

MOST_COUNTS = 200


def within(one, other):
    """Return whether no item of one is greater than that of other."""
    return all([few <= many for few, many in zip(one, other)])


def all_counts(limits):
    """Return the ascending list of all counts within limits."""
    found = [()]
    for limit in limits:
        found = [counts + (many,) for counts in found for many in range(limit + 1)]
    return found


def check_many(limits):
    """Raise TooMany if there are more than 200 counts within limits."""
    many = 1
    for limit in limits:
        many = many * (limit + 1)
    if many > MOST_COUNTS:
        raise TooMany(MOST_COUNTS)


def lets(sort, many):
    """Return whether a sort may have so many rows."""
    _, least, most = sort
    return least <= many and (most is None or many <= most)


def are_sizes(house, counts):
    """Return whether some table of the house has counts as its sizes."""
    return all([lets(sort, many) for sort, many in zip(house, counts)])


def rows_of_lot(house, lot, counts):
    """Return how many rows the sorts of a lot have together by counts."""
    return sum([many for sort, many in zip(house, counts) if sort[0] in lot])


def least_sizes(house, counts):
    """Return the least sizes that the house lets and that counts are within."""
    return tuple([max(sort[1], many) for sort, many in zip(house, counts)])


def firm_sizes(house):
    """Return the sizes of a firm house that has few counts; raise NotFirm or TooMany otherwise."""
    for name, least, most in house:
        if least != most:
            raise NotFirm(name)
    sizes = tuple([sort[1] for sort in house])
    check_many(sizes)
    return sizes


def strides_of(limits):
    """Return for each sort how much further in all_counts those stand that have one row more of it."""
    strides = []
    stride = 1
    for limit in reversed(limits):
        strides.insert(0, stride)
        stride = stride * (limit + 1)
    return strides


class Grid:
    """All counts of a house within limits, and what can be asked of sets of them.

    A set of counts is an integer here, the bit 1 << k of which tells whether the counts with the index k are in it. So
    what is asked of many counts is done in a few steps.
    """

    def __init__(self, house, limits):
        self.house = house
        self.limits = limits
        self.counts = all_counts(limits)
        self.strides = strides_of(limits)
        self.full = (1 << len(self.counts)) - 1
        # For each sort, those from which there is a step to one row less of it, and those with a step to one more.
        places = range(len(limits))
        self.some = [self.where([counts[at] > 0 for counts in self.counts]) for at in places]
        self.room = [self.where([counts[at] < limits[at] for counts in self.counts]) for at in places]
        leasts = [min(sort[1], limit) for sort, limit in zip(house, limits)]
        self.starts = self.where([within(leasts, counts) for counts in self.counts])

    def where(self, truths):
        """Return the set of those counts for which truths, one for each in order, tell it."""
        found = 0
        for index, truth in enumerate(truths):
            if truth:
                found = found | (1 << index)
        return found

    def set_of(self, counts):
        """Return the set that has just these counts."""
        return 1 << sum([many * stride for many, stride in zip(counts, self.strides)])

    def set_of_all(self, some):
        """Return the set that has just these counts, which are all different."""
        return sum([self.set_of(counts) for counts in some])

    def listed(self, found):
        """Return the ascending list of the counts in a set."""
        return [counts for index, counts in enumerate(self.counts) if (found >> index) & 1 == 1]

    def first(self, found):
        """Return the first counts of a set that is not empty."""
        # A number and the one before it differ in just the lowest bit and those below it.
        return self.counts[(found ^ (found - 1)).bit_length() - 1]

    def without(self, found, other):
        """Return the set of those counts of found that are not in the other set."""
        return found & (self.full ^ other)

    def below(self, found):
        """Return the set of all counts that are within some of a set."""
        for stride, some, limit in zip(self.strides, self.some, self.limits):
            for _ in range(limit):
                found = found | ((found & some) >> stride)
        return found

    def above(self, found):
        """Return the set of all counts that some of a set are within."""
        for stride, room, limit in zip(self.strides, self.room, self.limits):
            for _ in range(limit):
                found = found | ((found & room) << stride)
        return found

    def least(self, found):
        """Return the ascending list of those counts of a set that no other ones of it are within."""
        more = 0
        for stride, room in zip(self.strides, self.room):
            more = more | ((found & room) << stride)
        return self.listed(self.without(found, self.above(more)))


def is_part(lesser, lot):
    """Return whether all indexes of a tuple are in lot."""
    return all([index in lot for index in lesser])


def has_part(lot, found):
    """Return whether all indexes of some tuple of found are in lot."""
    return any([is_part(lesser, lot) for lesser in found])


def least_lots_by(many, is_good):
    """Return the ascending list of the ascending tuples of indexes below many that are good without any good part.

    What has a good part must be good, too.
    """
    found = []
    for size in range(many + 1):
        for lot in combinations(range(many), size):
            if not has_part(lot, found) and is_good(lot):
                found.append(lot)
    return sorted(found)
