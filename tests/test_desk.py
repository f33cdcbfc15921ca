"""Tests of [50], and of the words of [15] and [16] in its lines, with [R] and the errors of [4]."""

import random
import unittest

from countsfall.book import Book
from countsfall.desk import Desk
from countsfall.errors import CountError, NoCommand, NoText, Nothing, Wrong
from countsfall.forms import is_table
from countsfall.reader import read_case, read_formula, read_table
from countsfall.tables import fits
from countsfall.texts import show_answer, show_fact, show_formula, show_house
from tests.samples import A, ALL_OPEN, B, BEST, HOUSES, LOOSE, MIXED, ODD_VALUES, OPEN, PAIR, TOP, WORST
from tests.test_book import ROWS, THREE, book_of, histories

BIG = 10 ** 30
WORDS = (("at", 1, 1), ("is", 0, 2), ("open", 0, None), ("put", 0, 1), ("rank", 0, 1))
AT, IS = ("rank", ("at",), 1), ("rank", ("is",), 1)
PAIR_TEXT = "sort a 1 1\nsort b 1 1"
NO_COMMANDS = (
    "", " ", "back now", "again 1", "rows 0", "table a", "Back", "backs", "bac k", "take", "take x", "take 1 2", "take 1.0",
    "take 01", "take -0", "take +1", "take " + "1" * 32, "put", "told", "since", "put at 0", "put is ( rank 1 a )", "put is ( rank 1 a ) x",
    "put is ( rank 1 a ) 5 6", "put is ( rank 1 a ) 5 at", "put is ( rank 1 a ) 5 at x", "put is ( rank 1 a ) 5 at 1 2",
    "put is ( rank 1 a ) 5 on 1", "put is ( rank 1 a ) 5 at 1 at 2", "put is ( rank 1 c ) 5", "put is ( rank 0 a ) 5",
    "put is ( rank 1 ) 5", "put is ( rank 1 b a ) 5", "put is ( rank 1 a a ) 5", "put is (rank 1 a) 5", "put is ( rank 1 a ) 05",
    "put is ( rank 1 a ) Nothing", "put is ( rank 1 a ) none", "put count 5 -1 a", "put count 5 1", "put count 5 1 c", "put count 5 1 b a",
    "put count 5 a", "put count x 1 a", "put count 5 1 a at -", "put count 5 1 at 3", "put fact ( rank 1 a )",
    "put fact ( rank 1 a ) ( rank 1 b ) ( rank 1 a )", "put fact ( rank 1 a ) 5", "put sort c 1 1", "put rows a 5", "put put is ( rank 1 a ) 5",
    "is ( rank 1 a ) 5", "fact ( rank 1 a ) ( rank 1 b )", "count 5 1 a", "told ( rank 1 c )", "told ( rank 1 a ) 5", "told rank 1 a",
    "told ( rank 1 a ) ( rank 1 b )", "told ( kth 3 ( rank 1 a ) ( rank 1 b ) )", "told ( kth 1 )", "since ( rank 1 a ) x", "since 5",
    "told ( rank 1 a )# x", "told ( rank 1 a ) # x", "rows # x", "rows#", "# rows", "back #", "take 0 # x", "put is ( rank 1 a ) 5 # x",
    "back\n", "\nback", "ro\nws", "take\n0", "told ( rank 1 a )\n", "put is ( rank 1 a ) 5\nput is ( rank 1 b ) 4", "rows\nrows",
    "told " + "( kth 1 " * 4 + "( rank 1 a )" + " )" * 4, "book", "execute", "case", "places ( rank 1 a )", "twin", "sort a 1 1", "open",
    "told ( rank 1 a", "told " + "( " * 100, "refused", "done", "put is ( rank 1 a ) " + "9" * 32, "told ( rank " + "9" * 32 + " a )")


def show_row(row):
    """Return the line of a row by the words of the document."""
    return show_fact(row[1:]) if row[0] == "fact" else show_answer(row)


def loose(chosen, line):
    """Return a line with more blanks between its words and at both ends."""
    return "".join(" " * chosen.randint(0, 3) for _ in range(1)) + "".join(
        word + " " * chosen.randint(1, 4) for word in line.split(" "))


def plain_told(found):
    """Return the answer to what is told of a formula by the words of the document."""
    kind, known = found
    if kind == "sure":
        return ["sure nothing"] if known is None else [f"sure {known}"]
    lines = {"none": "none", "rung": "rung {}", "gap": "gap {} {}"}
    return ["open"] + [lines[place[0]].format(*["-" if bound is None else bound for bound in place[1:]]) for place in known]


class DeskCase(unittest.TestCase):

    def check_no_command(self, desk, line):
        book = desk.book()
        with self.assertRaises(NoCommand, msg=line):
            desk.execute(line)
        self.assertEqual([desk.book() == book, histories(desk.book()) == histories(book)], [True, True])


class TextTest(unittest.TestCase):

    def test_houses(self):
        for house in HOUSES + (WORDS, THREE):
            self.assertEqual(Desk(show_house(house)).book(), Book(house))
            self.assertEqual(Desk(" # x\n" + show_house(house).replace(" ", "  ") + "\n# y").book(), Book(house))

    def test_texts_that_are_none(self):
        for text, line in (("", 1), ("\n", 2), ("sort a 1 1\nsort a 1 1", 1), ("sort a 1 1\n\nrows a 1", 2), ("sort b 2 1", 0),
                           ("sort a 1 1\nis ( rank 1 a ) 5", 1), ("#", 1), ("back", 0)):
            with self.assertRaises(NoText) as caught:
                Desk(text)
            self.assertEqual(caught.exception.line, line)

    def test_wrong_values(self):
        desk = Desk(PAIR_TEXT)
        for thing in ODD_VALUES + (desk, Book(PAIR), b"rows"):
            if not isinstance(thing, str):
                for call in (Desk, desk.execute):
                    with self.assertRaises(Wrong) as caught:
                        call(thing)
                    self.assertEqual([caught.exception.place, type(caught.exception.place)], [0, int])
            else:
                with self.assertRaises(NoCommand):
                    desk.execute(thing)
                with self.assertRaises(NoText):
                    Desk(thing)
        self.assertEqual(desk.book(), Book(PAIR))


class CommandsTest(DeskCase):

    def test_the_example(self):
        desk = Desk(PAIR_TEXT)
        found = [desk.execute("put is ( rank 1 a b ) 5"), desk.execute("told ( rank 1 a )"), desk.execute("put count 6 1 a")]
        self.assertEqual(found, [["done"], ["open", "gap - 5", "rung 5"], ["refused NoTable"]])
        self.assertEqual([desk.execute("since ( rank 1 a )"), desk.execute("rows")], [["never"], ["is ( rank 1 a b ) 5"]])

    def test_lines_that_are_no_commands(self):
        desk = Desk(PAIR_TEXT)
        desk.execute("put is ( rank 1 a b ) 5")
        desk.execute("put is ( rank 1 b ) 5")
        desk.execute("back")
        for line in NO_COMMANDS:
            self.check_no_command(desk, line)
            self.check_no_command(Desk(show_house(WORDS)), line)
        self.assertEqual([desk.execute("again"), desk.execute("rows")], [["done"], ["is ( rank 1 a b ) 5", "is ( rank 1 b ) 5"]])

    def test_one_word_too_few_or_too_many(self):
        for line in ("put is ( rank 1 a b ) 5", "put is ( rank 1 a b ) 5 at 0", "put count 5 1 a b", "put count 5 1 a b at 0",
                     "put fact ( rank 1 a ) ( kth 1 ( rank 1 b ) ( rank 2 a b ) )", "take 0", "back", "again", "rows", "table",
                     "told ( rank 1 a )", "since ( kth 2 ( rank 1 a ) ( rank 1 b ) )"):
            words = line.split(" ")
            for at in range(len(words)):
                for other in (words[:at] + words[at + 1:], words[:at] + ["x"] + words[at:], words[:at] + ["x"] + words[at + 1:]):
                    shorter = " ".join(other)
                    if shorter not in ("put count 5 1 a", "put count 5 1 b", "put count 5 1 a at 0", "put count 5 1 b at 0",
                                       "put is ( rank 1 a ) 5", "put is ( rank 1 b ) 5", "put is ( rank 1 a ) 5 at 0",
                                       "put is ( rank 1 b ) 5 at 0",
                                       "put fact ( rank 1 a ) ( kth 1 ( rank 1 b ) ( rank 2 a ) )",
                                       "put fact ( rank 1 a ) ( kth 1 ( rank 1 b ) ( rank 2 b ) )"):
                        self.check_no_command(Desk(PAIR_TEXT), shorter)
                        self.check_no_command(Desk(PAIR_TEXT), shorter + " x")

    def test_against_a_book(self):
        refused = {}
        for seed in range(40):
            chosen = random.Random(seed)
            house = (PAIR, MIXED, LOOSE, OPEN, THREE)[seed % 5]
            desk, book = Desk(show_house(house)), Book(house)
            for _ in range(40):
                line, expected = self.command(chosen, book)
                self.assertEqual(desk.execute(loose(chosen, line)), expected, line)
                self.assertEqual(desk.book(), book)
                refused[expected[0] if expected else ""] = True
            self.assertEqual(histories(desk.book()), histories(book))
        self.assertLessEqual({"refused NoIndex", "refused NoTable", "refused TooMany", "refused Nothing", "done", "sure 5", "open", "never"},
                             set(refused))

    def command(self, chosen, book):
        """Return a line, and what the same call of a Book comes to."""
        formula = chosen.choice((A, B, BEST, WORST, TOP, ("rank", ("a", "b"), 9), ("rank", ("a", "b"), 70)))
        word = chosen.choice(("put", "put", "put at", "put at", "take", "back", "again", "told", "since", "rows", "table"))
        index = chosen.randint(-1, 4)
        row = chosen.choice(ROWS + (("is", ("rank", ("a", "b"), 3), None), ("count", ("a",), 0, 6)))
        calls = {
            "put": (f"put {show_row(row)}", lambda: book.put(len(book.rows()), row)),
            "put at": (f"put {show_row(row)} at {index}", lambda: book.put(index, row)),
            "take": (f"take {index}", lambda: book.take(index)), "back": ("back", book.back), "again": ("again", book.again),
            "told": (f"told {show_formula(formula)}", lambda: book.told(formula)),
            "since": (f"since {show_formula(formula)}", lambda: book.since(formula)),
            "rows": ("rows", lambda: [show_row(other) for other in book.rows()]),
            "table": ("table", lambda: [" ".join(["rows", name] + [str(number) for number in numbers])
                                        for name, numbers in book.table().items()])}
        line, call = calls[word]
        try:
            found = call()
        except CountError as error:
            return line, ["refused " + type(error).__name__]
        if word == "told":
            found = plain_told(found)
        elif word == "since":
            found = ["never" if found is None else str(found)]
        elif word not in ("rows", "table"):
            found = ["done"]
        return line, found

    def test_each_error_is_refused(self):
        desk = Desk(show_house(THREE))
        self.assertEqual([desk.execute(line) for line in ("back", "again", "take 0", "take -1", "put count 1 1 a at 1",
                                                          "put count 1 1 a at -1")],
                         [["refused Nothing"]] * 2 + [["refused NoIndex"]] * 4)
        self.assertEqual([desk.execute(line) for line in ("put count 1 5 a", "told ( rank 5 a )", "since ( rank 5 a )", "rows")],
                         [["refused TooMany"]] * 3 + [[]])
        for _ in range(10):
            self.assertEqual(desk.execute("put count 1 1 a"), ["done"])
        self.assertEqual([desk.execute("put count 1 1 a"), desk.execute("put count 1 2 a at 99")],
                         [["refused TooMany"], ["refused NoIndex"]])
        self.assertEqual(desk.execute("put count 1 2 a at 3"), ["refused TooMany"])
        for _ in range(4):
            self.assertEqual(desk.execute("put fact ( rank 2 a ) ( rank 1 a ) at 0"), ["done"])
        self.assertEqual(desk.execute("put fact ( rank 2 a ) ( rank 1 a )"), ["refused TooMany"])
        self.assertEqual([desk.execute("take 13"), desk.execute("put count 1 2 a"), len(desk.execute("rows"))],
                         [["done"], ["refused NoTable"], 13])

    def test_what_is_told(self):
        desk = Desk("sort b 0 2\nsort a 1 1")
        self.assertEqual(desk.execute("told ( rank 1 b )"), ["open", "none", "gap - -"])
        self.assertEqual(desk.execute("told ( rank 3 b )"), ["sure nothing"])
        self.assertEqual(desk.execute("since ( rank 3 b )"), ["0"])
        desk.execute("put is ( rank 1 a b ) 7")
        desk.execute("put count -3 1 a b at 0")
        self.assertEqual(desk.execute("told ( rank 1 a )"), ["open", "gap - -4", "rung -4", "rung 7"])
        self.assertEqual(desk.execute("told ( rank 1 b )"), ["open", "none", "gap - -4", "rung -4", "rung 7"])
        desk.execute("put count -3 1 a at 0")
        self.assertEqual([desk.execute("told ( rank 1 a )"), desk.execute("since ( rank 1 a )")], [["sure 7"], ["3"]])
        self.assertEqual(desk.execute("rows"), ["count -3 1 a", "count -3 1 a b", "is ( rank 1 a b ) 7"])
        desk = Desk(PAIR_TEXT)
        self.assertEqual(desk.execute(f"put is ( rank 1 a b ) {'9' * 31}"), ["done"])
        self.assertEqual(desk.execute("told ( kth 1 ( rank 1 a ) ( rank 1 b ) )"), ["sure " + "9" * 31])
        desk.execute("put is ( rank 1 a ) -4")
        self.assertEqual(desk.execute("told ( rank 2 a b )"), ["sure -4"])

    def test_gaps_of_all_kinds(self):
        desk = Desk("sort a 0 1\nsort b 0 1\nsort c 0 1")
        for line in ("put is ( rank 1 b ) 3", "put is ( rank 1 c ) 8"):
            self.assertEqual(desk.execute(line), ["done"])
        self.assertEqual(desk.execute("told ( rank 1 a )"), ["open", "none", "gap - 3", "rung 3", "gap 3 8", "rung 8", "gap 8 -"])

    def test_rows_and_table_are_read_back(self):
        chosen = random.Random(5)
        for house in (PAIR, MIXED, LOOSE, OPEN, ALL_OPEN):
            for _ in range(12):
                desk = Desk(show_house(house))
                for row in chosen.sample(ROWS, 3):
                    desk.execute("put " + show_row(row))
                case = desk.book().case()
                self.assertEqual(read_case("\n".join([show_house(house)] + desk.execute("rows"))), case)
                table = read_table(house, "\n".join(desk.execute("table")))
                self.assertEqual([is_table(house, table), fits(case, table), table], [True, True, desk.book().table()])
        self.assertEqual(Desk("sort b 0 open\nsort a 0 0").execute("table"), ["rows a", "rows b"])
        self.assertEqual(Desk("sort b 2 open\nsort a 0 0").execute("table"), ["rows a", "rows b 0 0"])
        self.assertEqual(Desk(PAIR_TEXT).execute("rows"), [])

    def test_sorts_called_as_words_of_commands(self):
        desk = Desk(show_house(WORDS))
        lines = ["put is ( rank 1 at is ) 5", "put count 5 1 at is at 0", "put count 5 1 at at 1", "put count 4 1 at",
                 "put fact ( rank 1 is ) ( rank 1 at ) at 0", "put is ( rank 1 at ) 5 at 5", "put count 9 0 is open put rank"]
        self.assertEqual([desk.execute(line) for line in lines], [["done"]] * 7)
        self.assertEqual(desk.book().rows(), [
            ("fact", IS, AT), ("count", ("at", "is"), 5, 1), ("count", ("at",), 5, 1), ("is", ("rank", ("at", "is"), 1), 5),
            ("count", ("at",), 4, 1), ("is", AT, 5), ("count", ("is", "open", "put", "rank"), 9, 0)])
        self.assertEqual(desk.execute("told ( kth 1 ( rank 1 at ) ( rank 1 rank ) )")[0], "open")
        self.assertEqual([desk.execute("take 2"), desk.execute("told ( rank 1 at )"), desk.execute("since ( rank 1 at )")],
                         [["done"], ["sure 5"], ["3"]])
        for line in ("put count 5 1 at 3", "put count 5 at 1", "put is ( rank 1 at ) at 5", "put count 5 1 is at", "put at 1"):
            self.check_no_command(desk, line)

    def test_formulas_at_most_four_deep(self):
        desk = Desk(PAIR_TEXT)
        deep = "( kth 1 " * 3 + "( rank 1 a )" + " )" * 3
        self.assertEqual([desk.execute("told " + deep), desk.execute(f"put is {deep} 4"), desk.execute("since " + deep)],
                         [["open", "gap - -"], ["done"], ["1"]])
        self.assertEqual(desk.book().rows(), [("is", read_formula(PAIR, deep), 4)])
        self.check_no_command(desk, f"since ( kth 1 {deep} )")

    def test_the_book_is_a_twin(self):
        desk = Desk(PAIR_TEXT)
        desk.execute("put is ( rank 1 a b ) 5")
        desk.execute("put is ( rank 1 b ) 5")
        desk.execute("back")
        book = desk.book()
        self.assertEqual(book, book_of(PAIR, [("is", BEST, 5)]))
        book.again()
        book.put(0, ("is", A, 5))
        self.assertEqual([len(book.rows()), desk.execute("rows")], [3, ["is ( rank 1 a b ) 5"]])
        self.assertEqual([desk.execute(line) for line in ("again", "back", "back", "back")],
                         [["done"]] * 3 + [["refused Nothing"]])
        self.assertEqual([len(book.rows()), desk.book().rows()], [3, []])
        for _ in range(3):
            book.back()
        with self.assertRaises(Nothing):
            book.back()

    def test_lists_are_new(self):
        desk = Desk(PAIR_TEXT)
        desk.execute("put is ( rank 1 a b ) 5")
        for line in ("rows", "table", "told ( rank 1 a )", "since ( rank 1 a )"):
            found = desk.execute(line)
            expected = list(found)
            found.clear()
            self.assertEqual(desk.execute(line), expected)


if __name__ == "__main__":
    unittest.main()
