"""Tests of [16]: what is read, with [R] and the errors of [4]."""

import unittest

from countsfall.errors import NoText, Wrong
from countsfall.houses import cells_of, renamed_formula
from countsfall.reader import read_case, read_formula, read_house, read_table
from countsfall.tables import fits, value_of
from countsfall.texts import show_case, show_formula, show_house, show_table
from tests.samples import ALL_OPEN, HOUSES, LOOSE, ODD_VALUES, PAIR, formulas_of, tables_with

WORDS = (("count", 0, 2), ("is", 1, None), ("kth", 2, 2), ("open", 0, 0), ("rank", 1, 1))
HOUSE = (("a", 1, 1), ("b", 0, 2), ("c", 2, None))
RANK = ("rank", ("a", "c"), 2)
TOP = 10 ** 31 - 1


def loosened(text):
    """Return a text that says the same, with blanks, remarks and empty lines put in."""
    lines = ["", "# a remark sort ( is", "    "]
    for place, line in enumerate(text.split("\n")):
        lines.append("  " * (place % 3) + line.replace(" ", " " * (1 + place % 4)) + ("  # is ( 1" if place % 2 else " "))
        lines.append(" #" if place % 2 else "")
    return "\n".join(lines)


class ReaderCase(unittest.TestCase):

    def check_bad(self, read, texts):
        for text, line in texts:
            with self.assertRaises(NoText, msg=text) as caught:
                read(text)
            self.assertEqual(caught.exception.line, line, text)


class ShownTest(ReaderCase):

    def test_houses_are_read_back(self):
        for house in HOUSES + (WORDS, (("abcdef", 6, 9),), (("a", 0, TOP),)):
            self.assertEqual(read_house(show_house(house)), house)
            self.assertEqual(read_house(loosened(show_house(house))), house)

    def test_tables_are_read_back(self):
        for house in HOUSES:
            for table in tables_with(house, (-TOP, -1, 0, 10 ** 30), 1)[:60]:
                self.assertEqual(read_table(house, show_table(table)), table)
                self.assertEqual(read_table(house, loosened(show_table(table))), table)

    def test_formulas_are_read_back(self):
        for house in HOUSES + (WORDS,):
            for formula in formulas_of(house)[:200] + [("rank", (house[0][0],), TOP)]:
                self.assertEqual(read_formula(house, show_formula(formula)), formula)
                self.assertEqual(read_formula(house, loosened(show_formula(formula))), formula)

    def test_cases_are_read_back(self):
        for house in HOUSES + (WORDS,):
            formulas = formulas_of(house)[:300:7]
            facts = tuple(zip(formulas[1:5], formulas))
            lot = tuple(sort[0] for sort in house)
            answers = tuple(("is", formula, value) for formula, value in zip(formulas, (None, 0, -TOP, TOP, 7)))
            for case in ((house, (), ()), (house, facts, ()), (house, facts, answers + (("count", lot, -3, 0),))):
                self.assertEqual(read_case(show_case(case)), case)
                self.assertEqual(read_case(loosened(show_case(case))), case)

    def test_lines_in_another_order(self):
        self.assertEqual(read_house("sort c 2 open\nsort a 1 1\nsort b 0 2"), HOUSE)
        table = read_table(HOUSE, "rows c 1 1 2\nrows a 5")
        self.assertEqual(table, {"a": (5,), "b": (), "c": (1, 1, 2)})
        self.assertEqual(list(table), ["a", "b", "c"])
        text = "sort c 2 open\nsort a 1 1\nis ( rank 1 a ) 5\nfact ( rank 1 a ) ( rank 1 c )\ncount 1 1 c\n"
        text += "fact ( rank 1 c ) ( rank 1 a )\nis ( rank 2 a c ) nothing"
        a, c = ("rank", ("a",), 1), ("rank", ("c",), 1)
        answers = (("is", a, 5), ("count", ("c",), 1, 1), ("is", RANK, None))
        self.assertEqual(read_case(text), ((("a", 1, 1), ("c", 2, None)), ((a, c), (c, a)), answers))

    def test_names_that_are_words_of_the_language(self):
        text = "sort rank 1 1\nsort open 0 open\nsort is 0 1\nsort sort 1 2\nsort fact 0 0\n"
        text += "is ( kth 1 ( rank 3 is open rank ) ) 5\ncount 2 1 fact sort\nfact ( rank 1 rank ) ( rank 1 open )"
        house, facts, answers = read_case(text)
        self.assertEqual(house, (("fact", 0, 0), ("is", 0, 1), ("open", 0, None), ("rank", 1, 1), ("sort", 1, 2)))
        self.assertEqual(facts, ((("rank", ("rank",), 1), ("rank", ("open",), 1)),))
        self.assertEqual(answers, (
            ("is", ("kth", 1, (("rank", ("is", "open", "rank"), 3),)), 5), ("count", ("fact", "sort"), 2, 1)))
        self.assertEqual(read_table(house, "rows rank 1\nrows sort 1 1"), {
            "fact": (), "is": (), "open": (), "rank": (1,), "sort": (1, 1)})

    def test_the_examples(self):
        house = (("a", 1, 1), ("b", 0, 2), ("c", 0, None))
        formula = ("kth", 1, (("rank", ("a",), 1), ("rank", ("b", "c"), 2)))
        table = {"c": (7,), "b": (3, 5), "a": (4,)}
        found = [cells_of(house), value_of(house, table, formula), show_formula(formula)]
        self.assertEqual(found, [("a",), 5, "( kth 1 ( rank 1 a ) ( rank 2 b c ) )"])
        renamed = renamed_formula(("rank", ("b", "c"), 2), {"a": "x", "b": "z", "c": "y"})
        self.assertEqual(renamed, ("rank", ("y", "z"), 2))
        case = read_case("sort b 0 2\nsort a 1 1\n# asked\nis ( rank 1 a b ) 5\ncount 5 1 b")
        fitting = [fits(case, {"a": (4,), "b": (3, 5)}), fits(case, {"a": (5,), "b": (5, 5)})]
        self.assertEqual([case[1:]] + fitting, [
            ((), (("is", ("rank", ("a", "b"), 1), 5), ("count", ("b",), 5, 1))), True, False])

    def test_the_same_call_again(self):
        first = read_table(LOOSE, "rows b 1")
        first["a"] = (9,)
        self.assertEqual(read_table(LOOSE, "rows b 1"), {"a": (), "b": (1,)})


class BadHouseTest(ReaderCase):

    def test_bad_lines(self):
        self.check_bad(read_house, [
            ("sort a 1 1\nsort a 1 1", 1), ("sort a 0 open\nsort b 1 1\nsort a 1 2", 2), ("sort a 2 1", 0),
            ("sort a -1 1", 0), ("sort a 0 -1", 0), ("sort a open open", 0), ("sort a 1", 0), ("sort a", 0), ("sort", 0),
            ("sort a 1 1 1", 0), ("sorts a 1 1", 0), ("Sort a 1 1", 0), ("sort A 1 1", 0), ("sort abcdefg 1 1", 0),
            ("sort a1 1 1", 0), ("sort 1 1 1", 0), ("rows a 1", 0), ("( rank 1 a )", 0), ("sort a 1 1\nis ( rank 1 a ) 1", 1),
            ("sort a 1 Open", 0), ("sort a 1 none", 0), ("sort a b 1", 0), ("sort a 1.0 2", 0), ("sort a\t1 1", 0)])

    def test_the_sixth_sort(self):
        text = "\n".join(f"sort {name} 0 open" for name in "fedcb")
        self.assertEqual(len(read_house(text)), 5)
        self.check_bad(read_house, [(text + "\nsort a 0 open", 5), (text + "\n\n#\nsort a 0 open", 7)])

    def test_integers(self):
        for word in ("-0", "007", "+1", "1_0", "00", "-01", "1.", "1e1", "0x1", "--1", "-", "1-", "", "'1'", str(10 ** 31)):
            self.check_bad(read_house, [(f"sort a {word} open", 0), (f"sort a 0 {word}", 0)])
        self.assertEqual(read_house(f"sort a 0 {TOP}"), (("a", 0, TOP),))
        self.assertEqual(read_house(f"sort a {TOP} open"), (("a", TOP, None),))

    def test_the_first_bad_line_is_told(self):
        self.check_bad(read_house, [
            ("\n\nsort a 1 1\n# sort\nsort a\nsort b 2 1", 4), ("sort a 2 1\nsort", 0), ("#\nrow\nsort a 1 1\nsort a 1 1", 1)])

    def test_a_text_without_a_sort(self):
        self.check_bad(read_house, [("", 1), ("\n", 2), ("#", 1), (" \n# sort a 1 1\n", 3), ("\n\n\n", 4)])

    def test_a_remark_begins_anywhere(self):
        self.assertEqual(read_house("sort a 1 1#sort b 1 1"), (("a", 1, 1),))
        self.assertEqual(read_house("sort a 1 1 # b # c\n#"), (("a", 1, 1),))
        self.check_bad(read_house, [("sort a 1 #1", 0)])


class BadTableTest(ReaderCase):

    def check_table(self, texts):
        self.check_bad(lambda text: read_table(HOUSE, text), texts)

    def test_bad_lines(self):
        good = "rows a 1\nrows c 1 1\n"
        self.check_table([
            (good + "rows d 1", 2), (good + "rows a 1", 2), (good + "rows b 2 1", 2), (good + "rows b 1 2 3", 2),
            ("rows a", 0), ("rows a 1 1", 0), ("rows c 1", 0), ("rows c", 0), (good + "rows", 2), (good + "row b", 2),
            (good + "rows b x", 2), (good + "rows b open", 2), (good + "b 1", 2), (good + "rows b nothing", 2),
            (good + "sort b 0 2", 2), (good + "rows b b", 2), (good + "rows B 1", 2), (good + "( rank 1 a )", 2)])

    def test_integers(self):
        for word in ("-0", "007", "+1", "1_0", "1.5", "-", str(10 ** 31), str(-10 ** 31), "True", "None"):
            self.check_table([(f"rows c 1 1\nrows a {word}", 1)])
        table = {"a": (TOP,), "b": (-TOP, 0), "c": (5, 5)}
        self.assertEqual(read_table(HOUSE, f"rows a {TOP}\nrows b -{TOP} 0\nrows c 5 5"), table)

    def test_a_sort_without_its_line(self):
        self.check_table([("", 1), ("rows a 1", 1), ("rows a 1\n", 2), ("\n#\nrows c 1 1\nrows b", 4)])
        self.assertEqual(read_table(HOUSE, "rows a 1\nrows c 2 2"), {"a": (1,), "b": (), "c": (2, 2)})
        self.assertEqual(read_table(LOOSE, ""), {"a": (), "b": ()})
        self.assertEqual(read_table(LOOSE, "rows b\n#"), {"a": (), "b": ()})

    def test_the_first_bad_line_is_told(self):
        self.check_table([("rows a 1\nrows a 1\nrows z", 1), ("\nrows a 2 1\nrows z", 1), ("rows c 2 1\nrows a", 0)])


class BadFormulaTest(ReaderCase):

    def check_formula(self, texts):
        self.check_bad(lambda text: read_formula(HOUSE, text), texts)

    def test_bad_lines(self):
        bad = [
            "rank 1 a", "( rank 1 a", "rank 1 a )", "( rank 1 )", "( rank a )", "( rank 1 d )", "( rank 1 b a )", "( )", "(",
            "( rank 1 a a )", "( rank 0 a )", "( rank -1 a )", "(rank 1 a)", "( rank 1 a ) )", "( rank 1 a ) a", ")", "a",
            "( ( rank 1 a ) )", "( rank 1 a ( rank 1 a ) )", "( kth 1 )", "( kth 0 ( rank 1 a ) )", "( kth 2 ( rank 1 a ) )",
            "( kth 1 a )", "( kth ( rank 1 a ) 1 )", "( kth 1 ( rank 1 a ) b )", "( kth 1 ( rank 1 a ) ( rank 1 d ) )",
            "( rank 1 a ) ( rank 1 b )", "( best 1 a )", "( rank 1, a )", "( RANK 1 a )", "( rank x a )", "( kth", "( rank",
            "( kth 1 ( rank 1 a )", "( rank 1 a ) 5", "is ( rank 1 a ) 5", "( rank", "( rank 1", "( kth 1 (", "nothing",
            "x rank 1 a )", ") rank 1 a )", "a kth 1 ( rank 1 a ) )", "( kth 1 a rank 1 a ) )", "( best 1 ( rank 1 a ) )",
            "( rank 1 a (", "( kth 1 ( rank 1 a ) (", "( 1 rank a )", "( kth 1 ( rank 1 a ) ) ( rank 1 a )"]
        self.check_formula([(text, 0) for text in bad])

    def test_integers(self):
        for word in ("-0", "007", "+1", "1_0", "1.5", "01", str(10 ** 31)):
            self.check_formula([(f"( rank {word} a )", 0), (f"( kth {word} ( rank 1 a ) )", 0)])
        self.assertEqual(read_formula(HOUSE, f"( rank {TOP} a )"), ("rank", ("a",), TOP))

    def test_four_and_five_deep(self):
        text, formula = "( rank 2 a c )", RANK
        for deep in range(2, 5):
            text, formula = f"( kth 1 {text} )", ("kth", 1, (formula,))
            self.assertEqual(read_formula(HOUSE, text), formula)
        self.check_formula([(f"( kth 1 {text} )", 0), (f"( kth 2 ( rank 1 a ) {text} )", 0)])
        self.assertEqual(read_formula(HOUSE, f"( kth 1 {text[8:-2]} ( rank 1 a ) )")[2][1], ("rank", ("a",), 1))

    def test_a_hundred_brackets(self):
        for word in ("( ", "( kth 1 ", "( rank 1 ", "( kth 1 ( rank 1 a ) "):
            self.check_formula([(word * 100, 0), ("#\n" + word * 100 + ") " * 100, 1)])
        wide = "( kth 99 " + "( rank 1 a ) " * 99 + ")"
        self.assertEqual(read_formula(HOUSE, wide), ("kth", 99, (("rank", ("a",), 1),) * 99))

    def test_a_second_line_and_none(self):
        self.check_formula([
            ("( rank 1 a )\n( rank 1 a )", 1), ("( rank 1 a )\n#\nx", 2), ("( rank 1 d )\n( rank 1 a )", 0),
            ("", 1), ("\n", 2), ("# ( rank 1 a )\n\n", 3), ("( rank 1 a\n)", 0)])
        self.assertEqual(read_formula(HOUSE, "\n #\n ( rank 1 a ) # x\n\n"), ("rank", ("a",), 1))


class BadCaseTest(ReaderCase):

    def check_case(self, texts):
        self.check_bad(read_case, texts)

    def test_bad_rows(self):
        head = "sort a 1 1\nsort b 0 2\n"
        bad = [
            "is ( rank 1 a )", "is 5 ( rank 1 a )", "is ( rank 1 c ) 5", "is ( rank 1 a ) none", "is ( rank 1 a ) 5 5",
            "is ( rank 1 a ) -0", "is ( rank 1 a ) Nothing", "is nothing ( rank 1 a )", "is", "is 5", "is nothing",
            "is ( rank 1 a ) ( rank 1 b )", "is ( rank 1 a ) ( rank 1 b ) 5", "is ( rank 1 b a ) 5", "is ( rank 1 a ) 5 nothing",
            "fact ( rank 1 a )", "fact", "fact ( rank 1 a ) ( rank 1 a ) ( rank 1 a )", "fact ( rank 1 a ) ( rank 1 a ) x",
            "fact ( rank 1 a ) ( rank 1 a ) 5", "fact x ( rank 1 a ) ( rank 1 a )", "is x ( rank 1 a ) 5", "fact: ( rank 1 a )", "fact ( rank 1 a ) ( rank 1 c )",
            "fact ( rank 1 c ) ( rank 1 a )", "fact ( rank 1 a ) 5", "fact ( rank 0 a ) ( rank 1 a )", "fact a b",
            "count 1 1", "count 1 -1 a", "count 1 1 c", "count 1 1 b a", "count 1 1 a a", "count a 1 1", "count 1 a",
            "count 1 nothing a", "count nothing 1 a", "count 007 1 a", "count 1 +1 a", "count", "count 1 1 ( a )", "count 1 -0 a",
            f"count {10 ** 31} 1 a", f"is ( rank 1 a ) {-10 ** 31}", "counts 1 1 a", "rows a 1", "( rank 1 a )", "nothing"]
        self.check_case([(head + line, 2) for line in bad])
        self.check_case([(head + "#\n\ncount 1 1 a\n" + line + "\nis\nfact", 5) for line in bad])

    def test_deep_formulas(self):
        text = "( rank 1 a )"
        for _ in range(3):
            text = f"( kth 1 {text} )"
        self.assertEqual(len(read_case(f"sort a 1 1\nis {text} 5\nfact {text} {text}")[2]), 1)
        deeper = f"( kth 1 {text} )"
        self.check_case([
            (f"sort a 1 1\nis {deeper} 5", 1), (f"sort a 1 1\nfact {text} {deeper}", 1),
            (f"sort a 1 1\nfact {deeper} {text}", 1), ("sort a 1 1\nis " + "( kth 1 " * 100, 1)])

    def test_sorts_stand_ahead_of_all_others(self):
        self.check_case([
            ("sort a 1 1\ncount 1 1 a\nsort b 1 1", 2), ("count 1 1 a\nsort a 1 1", 0), ("#\nfact\nsort a 1 1", 1),
            ("is ( rank 1 a ) 5", 0), ("sort a 1 1\nis ( rank 1 b ) 5\nsort b 1 1", 1), ("sort a 1 1\nsort", 1),
            ("sort a 1 1\nfact ( rank 1 a ) ( rank 1 a )\nsort a 1 1", 2), ("sort a 2 1\nx", 0), ("sort a 1 1\nsort a 1 1\nx", 1)])

    def test_a_case_without_sorts(self):
        self.check_case([("", 1), ("\n\n", 3), ("# sort a 1 1", 1)])

    def test_a_bad_line_comes_ahead_of_what_is_missing(self):
        self.check_case([("count 1 1 a\n\n", 0)])
        self.check_bad(lambda text: read_table(PAIR, text), [("rows a 1\nx\n", 1)])

    def test_the_largest_integers(self):
        case = read_case(f"sort a 0 open\nis ( rank {TOP} a ) -{TOP}\ncount {TOP} {TOP} a")
        self.assertEqual(case[2], (("is", ("rank", ("a",), TOP), -TOP), ("count", ("a",), TOP, TOP)))


class WrongTest(unittest.TestCase):

    def check_place(self, place, read, *arguments):
        with self.assertRaises(Wrong) as caught:
            read(*arguments)
        self.assertEqual(caught.exception.place, place)

    def test_texts_that_are_no_strings(self):
        for thing in ODD_VALUES:
            if not isinstance(thing, str):
                for read in (read_house, read_case):
                    self.check_place(0, read, thing)
                for read in (read_table, read_formula):
                    self.check_place(1, read, ALL_OPEN, thing)

    def test_houses_that_are_none(self):
        for thing in ODD_VALUES:
            if thing != (("a", 1, 1),):
                for read in (read_table, read_formula):
                    for text in ("", "rows a 1", "( rank 1 a )", None, 5):
                        self.check_place(0, read, thing, text)

    def test_strings_of_any_kind_are_taken(self):
        for text in [thing for thing in ODD_VALUES if isinstance(thing, str)] + ["( " * 6000, "x" * 12000, "\n" * 12000]:
            for read in (read_house, read_case, lambda text: read_formula(PAIR, text), lambda text: read_table(PAIR, text)):
                with self.assertRaises(NoText):
                    read(text)


if __name__ == "__main__":
    unittest.main()
