"""Deeds, by which rows come, go and move by their ranks, and what they leave of a table."""

from countsfall.forms import is_integer
from countsfall.houses import names_of


def is_of(house, thing):
    """Return whether thing is the name of a sort of the house."""
    return thing in names_of(house)


def is_from(least, thing):
    """Return whether thing is an integer from least on."""
    return is_integer(thing) and thing >= least


def is_deed(house, thing):
    """Return whether thing is a deed of the house."""
    if not isinstance(thing, tuple) or not 3 <= len(thing) <= 4 or not is_of(house, thing[1]):
        return False
    kind, name, what = thing[:3]
    if kind == "move":
        return len(thing) == 4 and is_from(1, what) and is_of(house, thing[3]) and thing[3] != name
    if len(thing) == 4:
        return False
    if kind == "merge":
        return is_of(house, what) and what != name
    if kind == "come":
        return is_integer(what)
    return (kind == "go" and is_from(1, what)) or (kind == "keep" and is_from(0, what))


def is_script(house, thing):
    """Return whether thing is a script of the house."""
    return isinstance(thing, tuple) and all([is_deed(house, deed) for deed in thing])


def freed(house):
    """Return the house in which each sort may have any number of rows."""
    return tuple([(name, 0, None) for name in names_of(house)])


def done(house, table, script):
    """Return the table behind a script."""
    # The best rows stand first here.
    rows = {name: sorted(table[name], reverse=True) for name in names_of(house)}
    for deed in script:
        do_deed(rows, deed)
    return {name: tuple(sorted(rows[name])) for name in rows}


def do_deed(rows, deed):
    """Change the lists of numbers, the best one first, that are the rows of each sort, by a deed."""
    kind, name, what = deed[:3]
    if kind == "come":
        rows[name] = sorted(rows[name] + [what], reverse=True)
    elif kind == "merge":
        rows[what] = sorted(rows[what] + rows[name], reverse=True)
        rows[name] = []
    elif kind == "keep":
        rows[name] = rows[name][:what]
    elif len(rows[name]) >= what:
        number = rows[name].pop(what - 1)
        if kind == "move":
            rows[deed[3]] = sorted(rows[deed[3]] + [number], reverse=True)
