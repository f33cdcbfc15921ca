"""Tests of [48], with [R] and the errors of [4]."""

import itertools
import random
import unittest

from countsfall.book import Book
from countsfall.errors import NoIndex, NoRow, NoTable, Nothing, TooMany, Wrong
from countsfall.forms import is_table
from countsfall.sure import places_of, told
from countsfall.tables import fits
from countsfall.walks import is_cut
from tests.samples import A, ALL_OPEN, B, BEST, HOUSES, LOOSE, MIXED, ODD_VALUES, OPEN, PAIR, TOP, WORST, broken

BIG = 10 ** 30
TWO_B = ("rank", ("b",), 2)
ROWS = (("is", BEST, 5), ("fact", A, B), ("count", ("a", "b"), 3, 1), ("is", WORST, 2), ("fact", WORST, A), ("is", A, 2))
FORMULAS = (A, B, BEST, WORST, TOP, TWO_B)
THREE = (("a", 0, None), ("b", 0, None), ("c", 0, None))
DEEP = ("rank", ("c",), 5)


def case_of(house, rows):
    """Return the case of some rows by the words of the document."""
    return (house, tuple(row[1:] for row in rows if row[0] == "fact"), tuple(row for row in rows if row[0] != "fact"))


def book_of(house, rows):
    """Return a Book with these rows."""
    book = Book(house)
    for index, row in enumerate(rows):
        book.put(index, row)
    return book


class BookCase(unittest.TestCase):

    def check_error(self, error, field, value, call, *arguments):
        with self.assertRaises(error) as caught:
            call(*arguments)
        if field is not None:
            self.assertIs(getattr(caught.exception, field), value)
        return caught.exception

    def check_refused(self, book, error, field, value, call, *arguments):
        """Check that a call raises an error and leaves the Book as it is, with what can be taken back and done again."""
        rows, twin = book.rows(), book.twin()
        found = self.check_error(error, field, value, getattr(book, call), *arguments)
        self.assertEqual([book.rows(), book == twin], [rows, True])
        self.assertEqual(histories(book.twin()), histories(twin))
        return found


def histories(book):
    """Return the rows of a Book as its changes are taken back one by one, and as those taken back are done again."""
    other = book.twin()
    found = [[], []]
    for at, step in enumerate((book.back, other.again)):
        try:
            while True:
                step()
                found[at].append((book, other)[at].rows())
        except Nothing:
            pass
    return found


class WrongTest(BookCase):

    def test_houses(self):
        for house in HOUSES + (THREE, (("a", 10 ** 39, None),)):
            self.assertEqual(Book(house).case(), (house, (), ()))
        for thing in ODD_VALUES:
            if repr(thing) != "(('a', 1, 1),)":
                self.check_error(Wrong, None, None, Book, thing)
                with self.assertRaises(Wrong) as caught:
                    Book(thing)
                self.assertEqual([caught.exception.place, type(caught.exception.place)], [0, int])
        for thing in broken(MIXED) + [MIXED[::-1], MIXED + MIXED, (("a", 2, 1),), Book(PAIR)]:
            if repr(thing) not in (repr((("a", 1, 5), ("b", 0, 2))), repr((("a", 1, 1), ("b", 0, 5)))):
                self.check_error(Wrong, None, None, Book, thing)


class PutTest(BookCase):

    def test_the_example(self):
        book = Book(PAIR)
        found = [book.put(0, ("is", BEST, 5)), book.put(0, ("is", WORST, 5)), book.told(A), book.since(A)]
        self.assertEqual(found, [None, None, ("sure", 5), 2])
        self.assertEqual(book.rows()[0], ("is", WORST, 5))

    def test_places_of_rows(self):
        for order in itertools.permutations(range(4)):
            book, plain = Book(MIXED), []
            for many, k in enumerate(order):
                index = (k * 2) % (many + 1)
                plain.insert(index, ROWS[k])
                self.assertIs(book.put(index, ROWS[k]), None)
                self.assertEqual([book.rows(), book.case()], [plain, case_of(MIXED, plain)])

    def test_rows_of_facts_and_answers(self):
        rows = [ROWS[1], ROWS[0], ROWS[4], ROWS[2]]
        book = book_of(MIXED, rows)
        self.assertEqual(book.case(), (MIXED, (ROWS[1][1:], ROWS[4][1:]), (ROWS[0], ROWS[2])))
        self.assertEqual([type(book.case()), type(book.rows())], [tuple, list])

    def test_what_is_no_row(self):
        book = book_of(PAIR, ROWS[:1])
        for thing in ODD_VALUES + (book, Book(PAIR), (Book(PAIR),), ("fact", Book(PAIR), A), (book, A, B), ("is", book, 1)):
            for index in (0, 1, 2, -1, None, thing) if repr(thing) != repr(("count", ("a",), 1, 0)) else ():
                self.check_refused(book, NoRow, "row", thing, "put", index, thing)
        for row in ROWS:
            for thing in broken(row) + [row[:-1], row + (1,), list(row)]:
                if not any(repr(thing) == repr(other) for other in other_rows(row)):
                    self.check_refused(book, NoRow, "row", thing, "put", 0, thing)
        for thing in (("fact", A), ("fact", A, B, A), ("fact", (A, B)), (A, B), ("fact", A, ("rank", ("c",), 1)), ("is", A, True),
                      ("count", ("a",), 1, -1), ("count", ("a",), True, 1), ("is", ("rank", ("a", "a"), 1), 1)):
            self.check_refused(book, NoRow, "row", thing, "put", 0, thing)

    def test_indexes(self):
        book = book_of(PAIR, ROWS[:2])
        for index in ODD_VALUES + (-1, 3, 4, BIG, book, -BIG):
            if type(index) is not int or not 0 <= index <= 2:
                self.check_refused(book, NoIndex, "index", index, "put", index, ROWS[3])
                # Also ahead of what would not fit.
                self.check_refused(book, NoIndex, "index", index, "put", index, ("is", BEST, 6))
        for index in (0, 1, 2):
            twin = book.twin()
            twin.put(index, ROWS[3])
            self.assertEqual(twin.rows(), list(ROWS[:index]) + [ROWS[3]] + list(ROWS[index:2]))

    def test_five_facts(self):
        fact = ("fact", WORST, BEST)
        book = book_of(LOOSE, [fact] * 4)
        for index in range(5):
            error = self.check_refused(book, TooMany, None, None, "put", index, fact)
            self.assertEqual(error.most, 4)
        self.check_refused(book, NoIndex, None, None, "put", 5, fact)
        book.put(4, ("is", A, 3))
        book.take(0)
        book.put(3, fact)
        self.assertEqual(len(book.rows()), 5)

    def test_eleven_answers(self):
        answer = ("is", A, 4)
        book = book_of(LOOSE, [answer] * 10)
        for row in (answer, ("is", A, 5), ("count", ("a",), 1, 1)):
            self.assertEqual(self.check_refused(book, TooMany, None, None, "put", 3, row).most, 10)
        book.put(10, ("fact", WORST, BEST))
        for _ in range(3):
            book.put(0, ("fact", WORST, BEST))
        self.assertEqual(self.check_refused(book, TooMany, None, None, "put", 0, ("fact", WORST, BEST)).most, 4)
        self.assertEqual(self.check_refused(book, TooMany, None, None, "put", 0, answer).most, 10)

    def test_more_than_200_counts(self):
        book = book_of(THREE, [("is", A, 4)])
        for row in (("is", DEEP, 4), ("is", DEEP, None), ("fact", A, DEEP), ("count", ("a",), 9, 5), ("is", ("rank", ("a",), BIG), 1),
                    ("count", ("b",), 9, 10 ** 39)):
            self.assertEqual(self.check_refused(book, TooMany, None, None, "put", 0, row).most, 200)
        # It comes ahead of what does not fit.
        self.check_refused(book, TooMany, None, None, "put", 0, ("count", ("a",), 9, 5))
        self.check_refused(book, NoTable, None, None, "put", 0, ("count", ("a",), 9, 3))
        just = Book((("a", 0, 9), ("b", 0, 9), ("c", 0, 1)))
        just.put(0, ("is", ("rank", ("a", "b"), 9), 4))
        self.assertEqual(len(just.rows()), 1)
        self.assertEqual(self.check_error(TooMany, None, None, Book((("a", 0, 9), ("b", 0, 9), ("c", 0, 2))).put, 0, just.rows()[0]).most, 200)

    def test_what_does_not_fit(self):
        book = book_of(PAIR, [("is", BEST, 5), ("fact", A, B)])
        for row in (("is", B, 4), ("is", A, 6), ("is", WORST, None), ("count", ("a", "b"), 4, 0), ("is", ("rank", ("a",), 2), 0)):
            for index in range(3):
                error = self.check_refused(book, NoTable, None, None, "put", index, row)
                rows = book.rows()
                rows.insert(index, row)
                self.assertIs(is_cut(case_of(PAIR, rows), error.cut), True)
        book.put(2, ("is", B, 5))

    def test_take(self):
        book = book_of(MIXED, ROWS[:4])
        for index in ODD_VALUES + (-1, 4, 5, BIG, book):
            if type(index) is not int or not 0 <= index < 4:
                self.check_refused(book, NoIndex, "index", index, "take", index)
        self.assertEqual([book.take(1), book.take(2), book.take(0), book.rows()], [ROWS[1], ROWS[3], ROWS[0], [ROWS[2]]])
        self.assertEqual([book.take(0), book.rows(), book.case()], [ROWS[2], [], (MIXED, (), ())])
        self.check_refused(book, NoIndex, "index", 0, "take", 0)


def other_rows(row):
    """Return the rows that come about if an integer of a row, or its formula, is otherwise."""
    if row[0] == "count":
        return [row, row[:2] + (5, row[3]), row[:3] + (5,)]
    if row[0] == "is":
        return [row, row[:2] + (5,), row[:2] + (None,), ("is", row[1][:2] + (5,), row[2])]
    return [row] + [("fact", one[:2] + (5,), other) for one, other in (row[1:],)] + [
        ("fact", one, other[:2] + (5,)) for one, other in (row[1:],)]


class ChangesTest(BookCase):

    def test_against_a_list_of_states(self):
        for seed in range(60):
            chosen = random.Random(seed)
            book, states, at = Book(LOOSE), [[]], 0
            for _ in range(40):
                word = chosen.choice(("put", "put", "put", "take", "back", "back", "again"))
                rows = list(states[at])
                if word in ("put", "take"):
                    at = self.change(book, chosen, word, states, at, rows)
                elif 0 <= at + (1 if word == "again" else -1) < len(states):
                    at += 1 if word == "again" else -1
                    self.assertIs(getattr(book, word)(), None)
                else:
                    self.check_error(Nothing, None, None, getattr(book, word))
                self.assertEqual(book.rows(), states[at])
                self.assertEqual(histories(book.twin()), [states[:at][::-1], states[at + 1:]])

    def change(self, book, chosen, word, states, at, rows):
        index, row = chosen.randint(0, 4), chosen.choice(ROWS)
        try:
            if word == "put":
                book.put(index, row)
                rows.insert(index, row)
            else:
                self.assertEqual(book.take(index), rows.pop(index))
        except (NoIndex, NoTable, TooMany):
            return at
        states[at + 1:] = [rows]
        return at + 1

    def test_nothing_at_first(self):
        book = Book(PAIR)
        for call in ("back", "again"):
            self.check_refused(book, Nothing, None, None, call)
        book.put(0, ROWS[0])
        self.check_refused(book, Nothing, None, None, "again")
        book.back()
        self.check_refused(book, Nothing, None, None, "back")
        book.again()
        self.check_refused(book, Nothing, None, None, "again")
        self.assertEqual(book.rows(), [ROWS[0]])

    def test_again_behind_a_new_change(self):
        book = book_of(LOOSE, ROWS[:3])
        book.back()
        book.back()
        book.put(1, ROWS[4])
        self.check_refused(book, Nothing, None, None, "again")
        book.back()
        book.again()
        self.assertEqual(book.rows(), [ROWS[0], ROWS[4]])
        book.back()
        book.take(0)
        self.check_refused(book, Nothing, None, None, "again")
        book.back()
        self.assertEqual(book.rows(), [ROWS[0]])

    def test_a_refused_call_leaves_what_can_be_done_again(self):
        book = book_of(LOOSE, ROWS[:2])
        book.back()
        for call, arguments in (("put", (0, "x")), ("put", (7, ROWS[0])), ("take", (5,)), ("put", (0, ("is", BEST, 6)))):
            with self.assertRaises((NoRow, NoIndex, NoTable)):
                getattr(book, call)(*arguments)
        book.again()
        self.assertEqual(book.rows(), list(ROWS[:2]))

    def test_twins(self):
        book = book_of(LOOSE, ROWS[:3])
        book.back()
        twin = book.twin()
        self.assertEqual([twin == book, twin.rows(), histories(twin.twin()) == histories(book.twin())], [True, book.rows(), True])
        twin.again()
        self.assertEqual([len(twin.rows()), len(book.rows())], [3, 2])
        book.take(0)
        book.back()
        book.back()
        self.assertEqual([twin.rows(), book.rows()], [list(ROWS[:3]), [ROWS[0]]])
        twin.back()
        twin.back()
        twin.back()
        self.check_error(Nothing, None, None, twin.back)
        book.again()
        self.assertEqual([twin.rows(), book.rows()], [[], list(ROWS[:2])])

    def test_lists_are_new(self):
        book = book_of(LOOSE, ROWS[:2])
        book.rows().clear()
        book.table().clear()
        book.places(A).clear()
        book.told(A)[1].clear()
        self.assertEqual([book.rows(), list(book.table())], [list(ROWS[:2]), ["a", "b"]])
        self.assertEqual([book.told(A), book.places(A)], [told(book.case(), A), places_of(book.case(), A)])


class EqualTest(BookCase):

    def test_houses_and_rows(self):
        books = [book_of(house, rows) for house in (PAIR, MIXED, (("a", 1, 1), ("b", 0, 3))) for rows in (
            (), ROWS[:1], ROWS[:2], ROWS[1::-1], ROWS[:1] * 2)]
        for one, other in itertools.product(range(len(books)), repeat=2):
            self.assertIs(books[one] == books[other], one == other)
            self.assertIs(books[one] != books[other], one != other)

    def test_what_was_changed_ahead_does_not_matter(self):
        one, other = book_of(PAIR, ROWS[:2]), Book(PAIR)
        other.put(0, ROWS[1])
        other.put(0, ROWS[3])
        other.back()
        other.put(0, ROWS[0])
        self.assertEqual([one == other, one == one.twin(), Book(PAIR) == Book(PAIR)], [True, True, True])

    def test_a_book_is_equal_to_nothing_else(self):
        book = Book((("a", 1, 1),))
        for thing in ODD_VALUES + (book.case(), book.rows(), [book]):
            self.assertEqual([book == thing, thing == book, book != thing], [False, False, True])


class TellsTest(BookCase):

    def books(self):
        found = []
        for house in (PAIR, MIXED, LOOSE, OPEN, ALL_OPEN):
            for order in itertools.permutations(ROWS, 3):
                try:
                    found.append((book_of(house, order), case_of(house, order)))
                except NoTable:
                    pass
        return found + [(Book(house), (house, (), ())) for house in HOUSES[:4]]

    def test_against_the_case_of_all_rows(self):
        books = self.books()
        self.assertGreater(len(books), 200)
        for book, case in books:
            self.assertEqual(book.case(), case)
            table = book.table()
            self.assertEqual([is_table(case[0], table), fits(case, table), list(table) == sorted(table)], [True] * 3)
            for formula in FORMULAS:
                self.assertEqual([book.told(formula), book.places(formula)], [told(case, formula), places_of(case, formula)])

    def test_since(self):
        seen = set()
        for book, case in self.books()[::2]:
            rows = book.rows()
            for formula in FORMULAS:
                sure = [many for many in range(len(rows) + 1) if told(case_of(case[0], rows[:many]), formula)[0] == "sure"]
                self.assertEqual(book.since(formula), min(sure, default=None))
                seen.add(min(sure, default=None))
        self.assertEqual(seen, {None, 0, 1, 2, 3})
        never = ("rank", ("a",), 7)
        self.assertEqual([Book(PAIR).since(never), book_of(PAIR, ROWS[:2]).since(never), Book(PAIR).since(A)], [0, 0, None])

    def test_more_than_200_counts(self):
        book = book_of(THREE, [("is", A, 4), ("is", B, 4)])
        for call in (book.told, book.places, book.since):
            self.assertEqual(self.check_error(TooMany, None, None, call, DEEP).most, 200)
            call(("rank", ("c",), 4))
        # By the case of all rows, even if some first rows would do.
        book = book_of(OPEN, [("is", A, 4), ("is", ("rank", ("a",), 60), None)])
        for call in (book.told, book.places, book.since):
            call(A)
            call(("rank", ("a",), 65))
            self.assertEqual(self.check_error(TooMany, None, None, call, ("rank", ("a",), 70)).most, 200)


if __name__ == "__main__":
    unittest.main()
