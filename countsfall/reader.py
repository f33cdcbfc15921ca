"""Houses, tables, formulas and cases read from texts as countsfall.texts shows them."""

from countsfall.errors import NoText, Wrong
from countsfall.forms import are_rows, is_answer, is_fact, is_formula, is_house
from countsfall.houses import names_of, sort_of

MOST_DIGITS = 31
MOST_DEEP = 4


def lines_of(text):
    """Return the list of (index, words) of the lines in which something is left."""
    lines = []
    for index, line in enumerate(text.split("\n")):
        words = words_of(line.partition("#")[0])
        if words:
            lines.append((index, words))
    return lines


def words_of(line):
    """Return the words of a line, between which are blanks alone."""
    return [word for word in line.split(" ") if word]


def end_of(text):
    """Return the index of the line that would follow the last one."""
    return len(text.split("\n"))


def integer_of(word):
    """Return the integer that a word shows as Python does, with at most 31 digits; None if it shows none."""
    digits = word.removeprefix("-")
    if not 1 <= len(digits) <= MOST_DIGITS or not all(["0" <= digit <= "9" for digit in digits]):
        return None
    if digits[0] == "0" and word != "0":
        return None
    return int(word)


def formula_at(words, at, deep):
    """Return what may be the formula whose words begin at an index, and the index behind them; None if none does.

    It is at most so deep. Whether it is a formula of a house is not looked at.
    """
    if deep == 0 or len(words) < at + 3 or words[at] != "(":
        return None
    k = integer_of(words[at + 2])
    if words[at + 1] == "rank":
        lot, behind = names_at(words, at + 3)
        found = ("rank", lot, k)
    elif words[at + 1] == "kth":
        formulas, behind = formulas_at(words, at + 3, deep - 1)
        found = ("kth", k, formulas)
    else:
        return None
    return (found, behind + 1) if words[behind:behind + 1] == [")"] else None


def names_at(words, at):
    """Return the tuple of the words from an index up to a closing bracket, and the index of this bracket."""
    behind = at
    while behind < len(words) and words[behind] != ")":
        behind += 1
    return tuple(words[at:behind]), behind


def formulas_at(words, at, deep):
    """Return the tuple of the formulas that follow one another from an index on, and the index behind them."""
    formulas = []
    found = formula_at(words, at, deep)
    while found is not None:
        formula, at = found
        formulas.append(formula)
        found = formula_at(words, at, deep)
    return tuple(formulas), at


def formula_of(house, words):
    """Return the formula of the house that words show, None if they show none."""
    formulas, behind = formulas_at(words, 0, MOST_DEEP)
    if behind != len(words) or len(formulas) != 1 or not is_formula(house, formulas[0]):
        return None
    return formulas[0]


def fact_of(house, words):
    """Return ("fact", one, other) for the fact that the words behind "fact" show, None if they show none."""
    formulas, behind = formulas_at(words, 1, MOST_DEEP)
    if behind != len(words) or not is_fact(house, formulas):
        return None
    return ("fact",) + formulas


def value_answer_of(house, words):
    """Return the answer that the words behind "is" show, None if they show none."""
    formulas, behind = formulas_at(words, 1, MOST_DEEP)
    if len(formulas) != 1 or behind != len(words) - 1:
        return None
    value = integer_of(words[behind])
    if value is None and words[behind] != "nothing":
        return None
    answer = ("is", formulas[0], value)
    return answer if is_answer(house, answer) else None


def count_answer_of(house, words):
    """Return the answer that the words behind "count" show, None if they show none."""
    if len(words) < 4:
        return None
    answer = ("count", tuple(words[3:]), integer_of(words[1]), integer_of(words[2]))
    return answer if is_answer(house, answer) else None


def row_of(house, words):
    """Return the answer, or the fact behind "fact", that the words of a line show; None if they show none."""
    if words[0] == "fact":
        return fact_of(house, words)
    if words[0] == "is":
        return value_answer_of(house, words)
    if words[0] == "count":
        return count_answer_of(house, words)
    return None


def house_with(house, words):
    """Return the house with the sort that the words of a line show; None if they show none that may be added."""
    if words[0] != "sort" or len(words) != 4:
        return None
    most = integer_of(words[3])
    if most is None and words[3] != "open":
        return None
    sorts = list(house) + [(words[1], integer_of(words[2]), most)]
    # By the name alone: of two sorts with one name, the rest may not be comparable.
    larger = tuple(sorted(sorts, key=lambda sort: sort[0]))
    return larger if is_house(larger) else None


def house_of(lines):
    """Return the house that lines of sorts show, the empty tuple if there are none."""
    house = ()
    for index, words in lines:
        house = house_with(house, words)
        if house is None:
            raise NoText(index)
    return house


def numbers_of(house, words):
    """Return the numbers that the words of a line show for a sort of the house, None if they show none."""
    if words[0] != "rows" or len(words) < 2 or words[1] not in names_of(house):
        return None
    numbers = tuple([integer_of(word) for word in words[2:]])
    return numbers if are_rows(sort_of(house, words[1]), numbers) else None


def read_house(text):
    """Return the house that a text shows."""
    if not isinstance(text, str):
        raise Wrong(0)
    house = house_of(lines_of(text))
    if len(house) == 0:
        raise NoText(end_of(text))
    return house


def read_table(house, text):
    """Return the table of the house that a text shows."""
    check_house_and_text(house, text)
    table = {}
    for index, words in lines_of(text):
        numbers = numbers_of(house, words)
        if numbers is None or words[1] in table:
            raise NoText(index)
        table[words[1]] = numbers
    for name, least, _ in house:
        if name not in table and least > 0:
            raise NoText(end_of(text))
    return {name: table.get(name, ()) for name in names_of(house)}


def read_formula(house, text):
    """Return the formula of the house that a text shows."""
    check_house_and_text(house, text)
    formula = None
    for index, words in lines_of(text):
        if formula is not None:
            raise NoText(index)
        formula = formula_of(house, words)
        if formula is None:
            raise NoText(index)
    if formula is None:
        raise NoText(end_of(text))
    return formula


def read_case(text):
    """Return the case that a text shows."""
    if not isinstance(text, str):
        raise Wrong(0)
    lines = lines_of(text)
    first = first_row(lines)
    house = house_of(lines[:first])
    facts, answers = [], []
    for index, words in lines[first:]:
        row = row_of(house, words)
        if row is None:
            raise NoText(index)
        if row[0] == "fact":
            facts.append(row[1:])
        else:
            answers.append(row)
    if len(house) == 0:
        raise NoText(end_of(text))
    return (house, tuple(facts), tuple(answers))


def first_row(lines):
    """Return the index of the first line that is no line of a sort, the number of lines if there is none."""
    first = 0
    while first < len(lines) and lines[first][1][0] == "sort":
        first += 1
    return first


def check_house_and_text(house, text):
    """Raise Wrong if house is no house, or text no string."""
    if not is_house(house):
        raise Wrong(0)
    if not isinstance(text, str):
        raise Wrong(1)
