"""What several roles may ask together, and what asks may be allowed for some needs and against some secrets."""

from countsfall.counts import least_lots_by
from countsfall.forms import is_integer
from countsfall.silent import FewAsks
from countsfall.ways import held_in, helds_in


def asks_of_roles(roles, names):
    """Return the ascending tuple of the indexes of the asks that some roles together may ask."""
    return tuple(sorted({index for name in names for index in roles[name]}))


def least_names_by(roles, is_good):
    """Return the ascending list of the tuples of names of roles whose asks together are good without any good part.

    What has a good part must be good, too.
    """
    names = sorted(roles)
    lots = least_lots_by(len(names), lambda lot: is_good(asks_of_roles(roles, [names[index] for index in lot])))
    return [tuple([names[index] for index in lot]) for lot in lots]


def breaches(house, asks, roles, secret):
    """Return the ascending list of the least tuples of roles that together are not silent about a secret."""
    few = FewAsks(house, asks, (secret,))
    helds = [held_in(few.grid, secret)]
    return least_names_by(roles, lambda lot: not few.is_silent(lot, helds))


def serving(house, asks, roles, formula):
    """Return the ascending list of the least tuples of roles whose asks together tell a formula always."""
    few = FewAsks(house, asks, (formula,))
    helds = [held_in(few.grid, formula)]
    return least_names_by(roles, lambda lot: few.tells(lot, helds))


def least_rights(house, asks, needs, secrets):
    """Return the ascending list of the least lots of asks that tell needs always and are silent about secrets."""
    few = FewAsks(house, asks, needs + secrets)
    needed, hidden = helds_in(few.grid, needs), helds_in(few.grid, secrets)
    # A part of what is silent is silent, so the least lots for the needs are enough.
    lots = least_lots_by(len(asks), lambda lot: few.tells(lot, needed))
    return [lot for lot in lots if few.is_silent(lot, hidden)]


def greatest_rights(house, asks, secrets):
    """Return the ascending list of the lots of asks that are silent about all secrets and lie in no other such lot."""
    few = FewAsks(house, asks, secrets)
    return few.silent_lots(helds_in(few.grid, secrets))


def is_ascending(many, thing):
    """Return whether thing is an ascending tuple of indexes below many."""
    if not isinstance(thing, tuple) or not all([is_integer(index) and 0 <= index < many for index in thing]):
        return False
    return all([one < other for one, other in zip(thing, thing[1:])])


def is_right(house, asks, needs, secrets, thing):
    """Return whether thing is a lot of asks that tells all needs always and is silent about all secrets."""
    few = FewAsks(house, asks, needs + secrets)
    if not is_ascending(len(asks), thing) or not few.tells(thing, helds_in(few.grid, needs)):
        return False
    return few.is_silent(thing, helds_in(few.grid, secrets))
