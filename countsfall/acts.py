"""What scripts make of the counts at a number."""

from countsfall.houses import names_of


def marks_of(script):
    """Return the ascending list of the numbers of the rows that come."""
    return sorted({deed[2] for deed in script if deed[0] == "come"})


def counts_behind(house, script, number, counts):
    """Return the counts that a script makes of counts at a number."""
    return all_behind(house, script, number, [counts])[0]


def all_behind(house, script, number, some):
    """Return the list of the counts that a script makes of each of some counts at a number, at least one."""
    # By sorts, each with all its counts: a deed looks at one or two sorts, whatever the others are.
    columns = dict(zip(names_of(house), [list(column) for column in zip(*some)]))
    for deed in script:
        act(columns, deed, number)
    by_sort = list(columns.values())
    return list(zip(*by_sort))


def act(columns, deed, number):
    """Change the lists of how many rows each sort has, by what a deed makes of them at a number."""
    kind, name, what = deed[:3]
    column = columns[name]
    if kind == "come":
        if number <= what:
            columns[name] = [many + 1 for many in column]
    elif kind == "keep":
        columns[name] = [min(many, what) for many in column]
    elif kind == "merge":
        columns[what] = [many + more for many, more in zip(columns[what], column)]
        columns[name] = [0] * len(column)
    else:
        columns[name] = [many - 1 if many >= what else many for many in column]
        if kind == "move":
            other = deed[3]
            columns[other] = [more + 1 if many >= what else more for more, many in zip(columns[other], column)]
