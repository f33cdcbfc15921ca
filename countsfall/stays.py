"""Those who stay for some days, each with one number for all of them, and the greatest number of each day."""

from countsfall.errors import TooMany

MOST_DAYS = 10


def there_on(stays, day):
    """Return the ascending tuple of those who are there on a day."""
    return tuple([name for name in sorted(stays) if day in stays[name]])


def told_days(stays, days, name):
    """Return the tuple of those of days on which this one is there."""
    return tuple([day for day in days if day in stays[name]])


def twins(stays, days):
    """Return the ascending list of the couples of those who are there on the same of days, at least on one."""
    told = {name: told_days(stays, days, name) for name in sorted(stays)}
    return [(one, other) for one in told for other in told if one < other and told[one] == told[other] != ()]


def told_sets(stays, days):
    """Return the dict from each name, ascending, to its told days, as an integer that has a bit for each of days."""
    told = {}
    for name in sorted(stays):
        told[name] = sum([1 << index for index, day in enumerate(days) if day in stays[name]])
    return told


def is_safe_by(told, name):
    """Return whether on each told day of this one another one is there all of whose told days are among these."""
    own = told[name]
    covered = 0
    for other in told:
        if other != name and told[other] & own == told[other]:
            covered = covered | told[other]
    return covered == own


def safe_names(stays, days):
    """Return the ascending tuple of those whose number is told in no table."""
    told = told_sets(stays, days)
    return tuple([name for name in told if is_safe_by(told, name)])


def days_for_all(stays, days):
    """Return the ascending list of the tuples of days by which all are safe, and that lie in no other such tuple."""
    if len(days) > MOST_DAYS:
        raise TooMany(MOST_DAYS)
    told = told_sets(stays, days)
    found = []
    # What others lie in is a greater integer, so it comes first.
    for some in reversed(range(1 << len(days))):
        if not any([some & other == some for other in found]) and are_safe_on(told, some):
            found.append(some)
    return sorted([tuple([day for index, day in enumerate(days) if (part >> index) & 1 == 1]) for part in found])


def are_safe_on(told, some):
    """Return whether all are safe if only some of the days are told."""
    fewer = {name: told[name] & some for name in told}
    return all([is_safe_by(fewer, name) for name in fewer])
