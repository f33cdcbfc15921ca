"""Houses, tables, formulas and cases as texts; countsfall.reader reads them back."""


def show_house(house):
    """Return the text of a house, a line for each sort."""
    return "\n".join([show_sort(sort) for sort in house])


def show_sort(sort):
    """Return the line of a sort."""
    name, least, most = sort
    return f"sort {name} {least} open" if most is None else f"sort {name} {least} {most}"


def show_table(table):
    """Return the text of a table, a line for each name."""
    lines = []
    for name in sorted(table):
        lines.append(" ".join(["rows", name] + [str(number) for number in table[name]]))
    return "\n".join(lines)


def show_formula(formula):
    """Return the words of a formula, in one line."""
    if formula[0] == "rank":
        _, lot, k = formula
        return " ".join(["( rank", str(k)] + list(lot) + [")"])
    _, k, formulas = formula
    return " ".join(["( kth", str(k)] + [show_formula(part) for part in formulas] + [")"])


def show_fact(fact):
    """Return the line of a fact."""
    return f"fact {show_formula(fact[0])} {show_formula(fact[1])}"


def show_answer(answer):
    """Return the line of an answer."""
    if answer[0] == "is":
        value = "nothing" if answer[2] is None else str(answer[2])
        return f"is {show_formula(answer[1])} {value}"
    _, lot, number, many = answer
    return " ".join(["count", str(number), str(many)] + list(lot))


def show_case(case):
    """Return the text of a case: its sorts, its facts, its answers."""
    house, facts, answers = case
    lines = [show_house(house)]
    for fact in facts:
        lines.append(show_fact(fact))
    for answer in answers:
        lines.append(show_answer(answer))
    return "\n".join(lines)
