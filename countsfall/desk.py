"""Desks, which lead a Book by lines of text."""

from countsfall.book import Book, is_fact_row
from countsfall.errors import NoCommand, NoIndex, NoTable, Nothing, TooMany, Wrong
from countsfall.reader import formula_of, integer_of, read_house, row_of, words_of
from countsfall.texts import show_answer, show_fact, show_table


def show_row(row):
    """Return the line of a row."""
    return show_fact(row[1:]) if is_fact_row(row) else show_answer(row)


def show_place(place):
    """Return the line of a place."""
    if place[0] == "gap":
        bounds = ["-" if bound is None else str(bound) for bound in place[1:]]
        return " ".join(["gap"] + bounds)
    return "none" if place[0] == "none" else f"rung {place[1]}"


def show_told(kind, found):
    """Return the lines of what is told of a formula."""
    if kind == "open":
        return ["open"] + [show_place(place) for place in found]
    return ["sure nothing" if found is None else f"sure {found}"]


class Desk:
    """A Book of the house that a text shows, led by commands."""

    def __init__(self, text):
        self._house = read_house(text)
        self._book = Book(self._house)

    def book(self):
        """Return a twin of the Book."""
        return self._book.twin()

    def execute(self, line):
        """Do what a line says, and return the list of the lines that answer it."""
        if not isinstance(line, str):
            raise Wrong(0)
        try:
            return self._answer(words_of(line))
        except NoIndex:
            return ["refused NoIndex"]
        except NoTable:
            return ["refused NoTable"]
        except Nothing:
            return ["refused Nothing"]
        except TooMany:
            return ["refused TooMany"]

    def _answer(self, words):
        """Return the list of the lines that answer the words of a line; raise what the Book raises."""
        first, rest = words[:1], words[1:]
        if first == ["put"]:
            return self._put(rest)
        if first == ["take"]:
            return self._take(rest)
        if first == ["told"]:
            kind, found = self._book.told(self._formula(rest))
            return show_told(kind, found)
        if first == ["since"]:
            many = self._book.since(self._formula(rest))
            return ["never" if many is None else str(many)]
        return self._answer_word(words)

    def _answer_word(self, words):
        """Return what _answer does, for a line that is to have one word alone."""
        if words == ["back"]:
            self._book.back()
            return ["done"]
        if words == ["again"]:
            self._book.again()
            return ["done"]
        if words == ["rows"]:
            return [show_row(row) for row in self._book.rows()]
        if words == ["table"]:
            return show_table(self._book.table()).split("\n")
        raise NoCommand()

    def _put(self, words):
        """Put the row that words show, perhaps with an index behind it."""
        index = len(self._book.rows())
        # No row ends with a word and an integer, so these can only be an index.
        if words[-2:-1] == ["at"] and integer_of(words[-1]) is not None:
            index = integer_of(words[-1])
            words = words[:-2]
        row = row_of(self._house, words) if words else None
        if row is None:
            raise NoCommand()
        self._book.put(index, row)
        return ["done"]

    def _take(self, words):
        """Take the row with the index that words show."""
        index = integer_of(words[0]) if len(words) == 1 else None
        if index is None:
            raise NoCommand()
        self._book.take(index)
        return ["done"]

    def _formula(self, words):
        """Return the formula that words show; raise NoCommand if they show none."""
        formula = formula_of(self._house, words)
        if formula is None:
            raise NoCommand()
        return formula
