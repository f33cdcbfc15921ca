"""What it tells of a secret if the clerk who sees the table refuses an ask."""

from countsfall.clerks import check_secret
from countsfall.errors import NeverRefused
from countsfall.further import settled_branches
from countsfall.sure import is_in, table_with, values_in
from countsfall.tables import value_of


def refused_at(case, ask, secret):
    """Return the list of (place, value, value of the secret) for those branches of an ask that make a secret sure."""
    check_secret(case, secret)
    return settled_branches(case, ask, secret)


def told_values(branch):
    """Return the list of (value of the ask, value of the secret) for one or two values in a branch.

    There are two if the secret has the value of the ask in a place that has more than one.
    """
    place, value, known = branch
    if place[0] == "gap" and known == value:
        return [(number, number) for number in values_in(place)]
    return [(value, known)]


def refusal_tells(case, ask, secret):
    """Return ("sure", value) if a refusal tells the value of a secret, otherwise ("open", two tables) with refusals."""
    couples = [couple for branch in refused_at(case, ask, secret) for couple in told_values(branch)]
    if not couples:
        raise NeverRefused()
    value, known = couples[0]
    others = [other for other, found in couples if found != known]
    if not others:
        return ("sure", known)
    return ("open", (table_with(case, ask, value), table_with(case, ask, others[0])))


def is_refused(case, ask, secret, table):
    """Return whether the clerk refuses an ask in a table that fits the case."""
    value = value_of(case[0], table, ask)
    return any([is_in(branch[0], value) for branch in refused_at(case, ask, secret)])
