"""Which asks together tell a secret in no table, and which in some."""

from itertools import combinations

from countsfall.always import tell
from countsfall.counts import Grid, has_part, is_part, least_lots_by
from countsfall.errors import TooMany
from countsfall.levels import checked_caps
from countsfall.patterns import rows_by
from countsfall.sometimes import row_walk
from countsfall.sure import is_sure
from countsfall.ways import held_in, helds_in, sets_by

MOST_ASKS = 6


class FewAsks:
    """At most six asks, and what some of them, a lot of indexes, tell of formulas that hold at the counts in helds."""

    def __init__(self, house, asks, formulas):
        if len(asks) > MOST_ASKS:
            raise TooMany(MOST_ASKS)
        self.grid = Grid(house, checked_caps(house, asks + formulas, ()))
        self.asked = helds_in(self.grid, asks)
        # This raises TooMany if all asks together have too many rows; fewer asks have no more.
        rows_by(self.grid, sets_by(self.grid, self.asked))

    def is_silent(self, lot, helds):
        """Return whether a lot of asks tells none of some formulas in any table."""
        sets = sets_by(self.grid, [self.asked[index] for index in lot])
        for row in rows_by(self.grid, sets):
            walk = row_walk(self.grid, sets, row)
            if any([is_sure(walk, held) for held in helds]):
                return False
        return True

    def tells(self, lot, helds):
        """Return whether a lot of asks tells each of some formulas always."""
        asked = [self.asked[index] for index in lot]
        return all([tell(self.grid, asked, held) for held in helds])

    def loud_lots(self, helds):
        """Return the ascending list of the least lots of asks that tell one of some formulas in some table."""
        return least_lots_by(len(self.asked), lambda lot: not self.is_silent(lot, helds))

    def silent_lots(self, helds):
        """Return the ascending list of the lots of asks that are silent about all and lie in no other such lot."""
        many = len(self.asked)
        loud = self.loud_lots(helds)
        lots = [lot for size in range(many + 1) for lot in combinations(range(many), size)]
        silent = [lot for lot in lots if not has_part(lot, loud)]
        return sorted([lot for lot in silent if not any([lot != other and is_part(lot, other) for other in silent])])


def loud_lots(house, asks, secret):
    """Return the ascending list of the least lots of asks that tell a secret in some table."""
    few = FewAsks(house, asks, (secret,))
    return few.loud_lots([held_in(few.grid, secret)])


def silent_lots(house, asks, secret):
    """Return the ascending list of the lots of asks that tell a secret in no table and lie in no other such lot."""
    few = FewAsks(house, asks, (secret,))
    return few.silent_lots([held_in(few.grid, secret)])
