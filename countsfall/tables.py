"""What is so in one table: values, counts, and whether it fits a case."""


def kth_greatest(values, k):
    """Return the k-th greatest of some values, nothing being less than all integers; nothing if there are fewer."""
    integers = sorted([value for value in values if value is not None], reverse=True)
    return integers[k - 1] if k <= len(integers) else None


def value_of(house, table, formula):
    """Return the value of a formula in a table, None for nothing."""
    if formula[0] == "rank":
        _, lot, k = formula
        return kth_greatest([number for name in lot for number in table[name]], k)
    _, k, formulas = formula
    return kth_greatest([value_of(house, table, part) for part in formulas], k)


def count_at_least(house, table, lot, number):
    """Return how many rows of the sorts of a lot have a number or a greater one."""
    return len([1 for name in lot for told in table[name] if told >= number])


def sizes_of(house, table):
    """Return how many rows each sort has."""
    return tuple([len(table[sort[0]]) for sort in house])


def all_numbers(table):
    """Return the ascending list of the numbers that occur."""
    return sorted({number for name in table for number in table[name]})


def keeps_fact(house, table, fact):
    """Return whether a table keeps a fact."""
    one = value_of(house, table, fact[0])
    other = value_of(house, table, fact[1])
    return one is None or (other is not None and one <= other)


def keeps(house, table, facts):
    """Return whether a table keeps all facts."""
    return all([keeps_fact(house, table, fact) for fact in facts])


def is_right(house, table, answer):
    """Return whether an answer is right of a table."""
    if answer[0] == "is":
        return value_of(house, table, answer[1]) == answer[2]
    _, lot, number, many = answer
    return count_at_least(house, table, lot, number) == many


def fits(case, table):
    """Return whether a table fits a case."""
    house, facts, answers = case
    return keeps(house, table, facts) and all([is_right(house, table, answer) for answer in answers])


def relabelled(table, labels):
    """Return the table in which each number is replaced by its label."""
    return {name: tuple([labels[number] for number in table[name]]) for name in sorted(table)}
