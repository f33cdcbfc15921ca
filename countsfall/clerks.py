"""Clerks, who know a table and refuse asks so that a secret does not become sure."""

from countsfall.errors import IsSure
from countsfall.further import answered, settled_branches
from countsfall.sure import is_in, told
from countsfall.tables import value_of


def check_secret(case, secret):
    """Raise IsSure if a secret is sure in a case."""
    kind, found = told(case, secret)
    if kind == "sure":
        raise IsSure(found)


def replies_by(case, asks, secret, table, sees):
    """Return the tuple of the replies to asks of a clerk who goes by the table, or by all tables that fit."""
    check_secret(case, secret)
    replies = []
    for ask in asks:
        value = value_of(case[0], table, ask)
        if any([not sees or is_in(branch[0], value) for branch in settled_branches(case, ask, secret)]):
            replies.append(("refused",))
        else:
            replies.append(("is", value))
            case = answered(case, ask, value)
    return tuple(replies)


def blind_replies(case, asks, secret, table):
    """Return the tuple of the replies of the clerk who refuses if some answer would make a secret sure."""
    return replies_by(case, asks, secret, table, False)


def seeing_replies(case, asks, secret, table):
    """Return the tuple of the replies of the clerk who refuses if the right answer would make a secret sure."""
    return replies_by(case, asks, secret, table, True)


def allowed(case, asks, secret):
    """Return the ascending tuple of the indexes of those asks that the blind clerk would answer first."""
    check_secret(case, secret)
    return tuple([index for index, ask in enumerate(asks) if not settled_branches(case, ask, secret)])
