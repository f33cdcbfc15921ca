"""Whether a value is an integer, a name, a house, and what else there is of a house."""

from countsfall.counts import lets

MOST_LETTERS = 6
MOST_SORTS = 5


def is_integer(thing):
    """Return whether thing is an integer; True and False are none."""
    return isinstance(thing, int) and not isinstance(thing, bool)


def is_name(thing):
    """Return whether thing is a string of one to six of the letters a to z."""
    if not isinstance(thing, str) or not 1 <= len(thing) <= MOST_LETTERS:
        return False
    return all(["a" <= letter <= "z" for letter in thing])


def is_sort(thing):
    """Return whether thing is a sort."""
    if not isinstance(thing, tuple) or len(thing) != 3:
        return False
    name, least, most = thing
    if not is_name(name) or not is_integer(least) or least < 0:
        return False
    return most is None or (is_integer(most) and most >= least)


def is_house(thing):
    """Return whether thing is a house."""
    if not isinstance(thing, tuple) or not 1 <= len(thing) <= MOST_SORTS:
        return False
    if not all([is_sort(sort) for sort in thing]):
        return False
    return all([one[0] < other[0] for one, other in zip(thing, thing[1:])])


def are_numbers(thing):
    """Return whether thing is a tuple of integers, none less than the one ahead of it."""
    if not isinstance(thing, tuple) or not all([is_integer(number) for number in thing]):
        return False
    return all([one <= other for one, other in zip(thing, thing[1:])])


def are_rows(sort, thing):
    """Return whether thing is the tuple of the numbers that the rows of a sort may have."""
    return are_numbers(thing) and lets(sort, len(thing))


def is_table(house, thing):
    """Return whether thing is a table of the house."""
    if not isinstance(thing, dict) or len(thing) != len(house):
        return False
    for sort in house:
        if sort[0] not in thing or not are_rows(sort, thing[sort[0]]):
            return False
    return True


def is_lot(house, thing):
    """Return whether thing is a lot of the house."""
    if not isinstance(thing, tuple) or len(thing) == 0:
        return False
    names = [sort[0] for sort in house]
    if not all([name in names for name in thing]):
        return False
    return all([one < other for one, other in zip(thing, thing[1:])])


def are_formulas(house, thing):
    """Return whether thing is a tuple of formulas of the house, perhaps empty."""
    return isinstance(thing, tuple) and all([is_formula(house, part) for part in thing])


def is_formula(house, thing):
    """Return whether thing is a formula of the house."""
    if not isinstance(thing, tuple) or len(thing) != 3:
        return False
    if thing[0] == "rank":
        return is_lot(house, thing[1]) and is_integer(thing[2]) and thing[2] >= 1
    if thing[0] == "kth":
        return are_formulas(house, thing[2]) and is_integer(thing[1]) and 1 <= thing[1] <= len(thing[2])
    return False


def is_fact(house, thing):
    """Return whether thing is a fact of the house."""
    return are_formulas(house, thing) and len(thing) == 2


def is_answer(house, thing):
    """Return whether thing is an answer of the house."""
    if not isinstance(thing, tuple) or len(thing) == 0:
        return False
    if thing[0] == "is" and len(thing) == 3:
        return is_formula(house, thing[1]) and (thing[2] is None or is_integer(thing[2]))
    if thing[0] == "count" and len(thing) == 4:
        return is_lot(house, thing[1]) and is_integer(thing[2]) and is_integer(thing[3]) and thing[3] >= 0
    return False


def is_case(thing):
    """Return whether thing is a case."""
    if not isinstance(thing, tuple) or len(thing) != 3:
        return False
    house, facts, answers = thing
    if not is_house(house) or not isinstance(facts, tuple) or not isinstance(answers, tuple):
        return False
    if not all([is_fact(house, fact) for fact in facts]):
        return False
    return all([is_answer(house, answer) for answer in answers])


def is_counts(house, thing):
    """Return whether thing is counts of the house."""
    if not isinstance(thing, tuple) or len(thing) != len(house):
        return False
    for sort, many in zip(house, thing):
        if not is_integer(many) or many < 0:
            return False
        if sort[2] is not None and many > sort[2]:
            return False
    return True
