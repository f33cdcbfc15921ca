"""Books, which collect what is known of one table of a house."""

from countsfall.errors import NoIndex, NoRow, Nothing, TooMany, Wrong
from countsfall.forms import is_answer, is_fact, is_house, is_integer
from countsfall.sure import places_of, told
from countsfall.walks import a_table, fitting_walk

MOST_FACTS = 4
MOST_ANSWERS = 10


def is_fact_row(row):
    """Return whether a row is one of a fact."""
    return row[0] == "fact"


def is_row(house, thing):
    """Return whether thing is a row of a Book of the house."""
    if isinstance(thing, tuple) and len(thing) == 3 and is_fact_row(thing):
        return is_fact(house, thing[1:])
    return is_answer(house, thing)


def case_of(house, rows):
    """Return the case of some rows."""
    facts = [row[1:] for row in rows if is_fact_row(row)]
    answers = [row for row in rows if not is_fact_row(row)]
    return (house, tuple(facts), tuple(answers))


def check_index(index, many):
    """Raise NoIndex if index is no integer from 0 to below many."""
    if not is_integer(index) or not 0 <= index < many:
        raise NoIndex(index)


def check_case(case):
    """Raise TooMany if a case has too many facts or answers, or counts; then NoTable if no table fits it."""
    _, facts, answers = case
    if len(facts) > MOST_FACTS:
        raise TooMany(MOST_FACTS)
    if len(answers) > MOST_ANSWERS:
        raise TooMany(MOST_ANSWERS)
    fitting_walk(case, (), ())


class Book:
    """Rows, facts and answers, that some table keeps to; changes can be taken back and done again."""

    def __init__(self, house):
        if not is_house(house):
            raise Wrong(0)
        self._house = house
        self._rows = ()
        # The rows ahead of each change, and those behind each change that was taken back, the last one at the end.
        self._past = []
        self._undone = []

    def __eq__(self, other):
        return isinstance(other, Book) and self._house == other._house and self._rows == other._rows

    def put(self, index, row):
        """Put a row ahead of the row with an index, or behind all."""
        if not is_row(self._house, row):
            raise NoRow(row)
        check_index(index, len(self._rows) + 1)
        rows = self._rows[:index] + (row,) + self._rows[index:]
        check_case(case_of(self._house, rows))
        self._change(rows)

    def take(self, index):
        """Take the row with an index out, and return it."""
        check_index(index, len(self._rows))
        row = self._rows[index]
        self._change(self._rows[:index] + self._rows[index + 1:])
        return row

    def _change(self, rows):
        """Go over to other rows by a change that can be taken back."""
        self._past.append(self._rows)
        self._undone = []
        self._rows = rows

    def rows(self):
        """Return the list of the rows."""
        return list(self._rows)

    def case(self):
        """Return the case of all rows."""
        return case_of(self._house, self._rows)

    def table(self):
        """Return a table that fits."""
        return a_table(self.case())

    def told(self, formula):
        """Return whether a formula is sure, and what is known of its value."""
        return told(self.case(), formula)

    def places(self, formula):
        """Return the list of the places in which the value of a formula can lie."""
        return places_of(self.case(), formula)

    def since(self, formula):
        """Return the least number of first rows by which a formula is sure, None if it is not sure by all."""
        if self.told(formula)[0] != "sure":
            return None
        many = len(self._rows)
        while many > 0 and told(case_of(self._house, self._rows[:many - 1]), formula)[0] == "sure":
            many -= 1
        return many

    def back(self):
        """Take the last change back."""
        if not self._past:
            raise Nothing()
        self._undone.append(self._rows)
        self._rows = self._past.pop()

    def again(self):
        """Do the change that was taken back last once more."""
        if not self._undone:
            raise Nothing()
        self._past.append(self._rows)
        self._rows = self._undone.pop()

    def twin(self):
        """Return an independent Book in the same state."""
        book = Book(self._house)
        book._rows = self._rows
        book._past = list(self._past)
        book._undone = list(self._undone)
        return book
