"""The sorts of a house, and what becomes of them under new names."""

from countsfall.errors import NoName


def names_of(house):
    """Return the ascending tuple of the names of the sorts."""
    return tuple([sort[0] for sort in house])


def sort_of(house, name):
    """Return the sort with a name."""
    for sort in house:
        if sort[0] == name:
            return sort
    raise NoName(name)


def is_open(house):
    """Return whether some sort is open."""
    return any([sort[2] is None for sort in house])


def is_firm(house):
    """Return whether each sort has just one size."""
    return all([sort[1] == sort[2] for sort in house])


def cells_of(house):
    """Return the ascending tuple of the names of the cells."""
    return tuple([name for name, least, most in house if least == 1 and most == 1])


def part_of(house, lot):
    """Return the house that has just the sorts of a lot."""
    return tuple([sort for sort in house if sort[0] in lot])


def renamed_house(house, names):
    """Return the house with new names."""
    return tuple(sorted([(names[name], least, most) for name, least, most in house]))


def renamed_lot(lot, names):
    """Return the lot with new names."""
    return tuple(sorted([names[name] for name in lot]))


def renamed_formula(formula, names):
    """Return the formula that says the same of the house with new names."""
    if formula[0] == "rank":
        return ("rank", renamed_lot(formula[1], names), formula[2])
    _, k, formulas = formula
    return ("kth", k, tuple([renamed_formula(part, names) for part in formulas]))


def renamed_answer(answer, names):
    """Return the answer that says the same of the house with new names."""
    if answer[0] == "is":
        return ("is", renamed_formula(answer[1], names), answer[2])
    _, lot, number, many = answer
    return ("count", renamed_lot(lot, names), number, many)


def renamed_case(case, names):
    """Return the case that says the same of the house with new names."""
    house, facts, answers = case
    new_facts = [(renamed_formula(one, names), renamed_formula(other, names)) for one, other in facts]
    new_answers = [renamed_answer(answer, names) for answer in answers]
    return (renamed_house(house, names), tuple(new_facts), tuple(new_answers))
