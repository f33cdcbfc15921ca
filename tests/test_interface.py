"""Tests that the interface stands in its files, and of what [3] says of all functions."""

import ast
import copy
import importlib
import inspect
import pathlib
import unittest

from countsfall import errors

MODULES = {
    "forms": "is_integer(thing) is_name(thing) is_house(thing) is_table(house,thing) is_lot(house,thing) "
             "is_formula(house,thing) is_fact(house,thing) is_answer(house,thing) is_case(thing) is_counts(house,thing)",
    "houses": "names_of(house) sort_of(house,name) cells_of(house) is_open(house) is_firm(house) part_of(house,lot) "
              "renamed_house(house,names) renamed_formula(formula,names) renamed_case(case,names)",
    "tables": "value_of(house,table,formula) count_at_least(house,table,lot,number) sizes_of(house,table) all_numbers(table) "
              "keeps(house,table,facts) is_right(house,table,answer) fits(case,table) relabelled(table,labels)",
    "texts": "show_house(house) show_table(table) show_formula(formula) show_case(case)",
    "reader": "read_house(text) read_formula(house,text) read_case(text) read_table(house,text)",
    "falls": "counts_at(house,table,number) fall_of(house,table) is_fall(house,thing) table_of(house,fall)",
    "kinds": "kind_of(house,table) is_kind(house,thing) is_coarser(house,one,other) with_numbers(house,kind,numbers) "
             "value_place(house,kind,formula) coarser_kinds(house,kind) all_kinds(house) kinds_many(house) "
             "tables_many(house,low,high)",
    "ways": "holds(house,formula,counts) are_ways(house,thing) holds_by(ways,counts) ways_of(house,formula) "
            "ways_formula(house,ways)",
    "likeness": "are_alike(house,one,other) is_never_above(house,one,other) parted_by(house,one,other) "
                "above_by(house,one,other) alike_lots(house,formulas) never_above(house,formulas)",
    "shapes": "matters(house,formula) settled_formula(house,formula) turned_formula(house,formula) "
              "can_be_nothing(house,formula) can_be_something(house,formula) turned_table(table)",
    "levels": "rungs_of(answers) level_of(rungs,number) depth_of(formulas,answers) caps_of(house,depth)",
    "ladders": "is_let(case,level,counts) ladder_of(case)",
    "walks": "starts_of(case) come_to(case) a_table(case) cut_of(case) is_cut(case,thing)",
    "numbered": "many_fits(case,low,high)",
    "sure": "places_of(case,formula) told(case,formula) table_with(case,formula,value)",
    "joint": "joint_places(case,one,other) is_kept(case,fact) breaking_table(case,fact)",
    "follow": "follows(case,answer) needless_answers(case) least_answers(case,formula)",
    "always": "pair_table(house,pair) tells_always(house,asks,formula) are_always_pairs(house,asks,formula,thing) "
              "always_pairs(house,asks,formula)",
    "readings": "reading(house,asks,formula) read_by(reading,values)",
    "lots": "least_lots(house,asks,formula) needed_asks(house,asks,formula) same_always(house,one,other)",
    "closed": "all_told(house,asks) bounds_told(house,asks,formula)",
    "divisions": "division_of(house,asks) refined(house,one,other) joined_up(house,division,couples) "
                 "is_division(house,thing) is_ring(house,division,thing) ring_of(house,division) asks_of(house,division)",
    "patterns": "pattern_of(house,asks,counts) row_of(house,asks,table) rows_of(house,asks) table_by(house,asks,row)",
    "sometimes": "is_told_in(house,asks,formula,table) apart_in(house,asks,formula,table) "
                 "tells_sometimes(house,asks,formula) told_rows(house,asks,formula)",
    "silent": "silent_lots(house,asks,secret) loud_lots(house,asks,secret)",
    "best": "lot_asks(lots) shadows_of(lots,name) safe_cells(house,lots) is_union(lots,lot) best_sometimes(lots,lot)",
    "stays": "there_on(stays,day) told_days(stays,days,name) safe_names(stays,days) twins(stays,days) "
             "days_for_all(stays,days)",
    "further": "branches(case,ask) settling(case,ask,formula) behind(case,ask,value) next_asks(case,asks,formula)",
    "trees": "least_tree(house,asks,formula,most) fewest_asks(house,asks,formula,most) is_tree(house,asks,thing) "
             "is_finding(house,asks,formula,thing) tree_depth(tree) walk_tree(house,asks,tree,table) "
             "told_by_way(house,asks,formula,way)",
    "clerks": "blind_replies(case,asks,secret,table) seeing_replies(case,asks,secret,table) allowed(case,asks,secret)",
    "refusals": "refused_at(case,ask,secret) refusal_tells(case,ask,secret) is_refused(case,ask,secret,table)",
    "roles": "breaches(house,asks,roles,secret) serving(house,asks,roles,formula) "
             "least_rights(house,asks,needs,secrets) greatest_rights(house,asks,secrets) "
             "is_right(house,asks,needs,secrets,thing)",
    "deeds": "is_deed(house,thing) is_script(house,thing) freed(house) done(house,table,script)",
    "acts": "marks_of(script) counts_behind(house,script,number,counts)",
    "scripts": "same_acts(house,one,other) parted_table(house,one,other)",
    "past": "formula_before(house,script,formula) lost_tables(house,script,formula) case_before(house,facts,steps)",
    "extracts": "occurring(case) extract_of(case,formula) shows(case,formula,value,thing)",
}
CLASSES = {
    "book.Book": "__init__(self,house) __eq__(self,other) put(self,index,row) take(self,index) case(self) "
                 "told(self,formula) rows(self) places(self,formula) table(self) since(self,formula) back(self) again(self) "
                 "twin(self)",
    "desk.Desk": "__init__(self,text) execute(self,line) book(self)",
}

HOUSE = (("a", 1, 2), ("b", 0, 1))
TABLE = {"b": (4,), "a": (2, 4)}
NAMES = {"b": "y", "a": "z"}
FORMULA = ("kth", 1, (("rank", ("a", "b"), 2), ("rank", ("b",), 1)))
ANSWERS = (("is", FORMULA, 4), ("count", ("a",), 3, 1))
CASE = (HOUSE, ((("rank", ("a",), 2), FORMULA),), ANSWERS)
KIND = ((2, 1), (1, 1))
VALUES = {
    "house": HOUSE, "table": TABLE, "names": NAMES, "formula": FORMULA, "answers": ANSWERS, "case": CASE, "kind": KIND,
    "name": "b", "lot": ("a", "b"), "number": 3, "facts": CASE[1], "answer": ANSWERS[1], "labels": {4: 9, 2: 1, 3: 5},
    "text": "", "fall": ((2, (2, 1)), (4, (1, 1))), "numbers": (0, 5), "low": 0, "high": 3, "counts": (1, 1),
    "ways": ((0, 1), (2, 0)), "formulas": (FORMULA, FORMULA[2][0]), "rungs": [2, 3, 4], "depth": 2, "level": 1,
    "thing": {"a": [(1,)], "b": {}}, "one": FORMULA, "other": FORMULA[2][0], "value": 4, "fact": CASE[1][0][::-1],
    "asks": FORMULA[2], "secret": ("rank", ("a",), 1), "pair": ((2, 1), (1, 1)),
    "row": ((True, True), (True, False), (False, False)),
    "reading": {((True,), (True,)): True, ((True,), (False,)): False}, "values": (7,),
    "lots": (("a", "b"), ("b",)), "stays": {"b": (4, 5), "a": (1, 4)}, "days": (1, 4), "day": 4,
    "ask": ("rank", ("a",), 1), "most": 2, "tree": ("ask", 1, ((-1, ("leaf",)), (0, ("leaf",)))),
    "way": [(1, 4)], "roles": {"y": (0, 1), "x": ()}, "needs": (FORMULA[2][0],), "secrets": (("rank", ("a",), 1),),
    "script": (("move", "a", 2, "b"), ("keep", "b", 1)), "steps": (("is", FORMULA, 4), ("go", "a", 1), ("is", FORMULA[2][1], 3)),
}
FIRM = (("a", 1, 1), ("b", 1, 1))
DIVISION = (((0, 0), (1, 1)), ((0, 1),), ((1, 0),))
LONGER = (HOUSE, (), (("is", ("rank", ("b",), 1), 4),))
SPECIAL = {
    "is_coarser": (HOUSE, KIND[:1], KIND), "read_house": ("sort a 1 1",), "read_table": (HOUSE, "rows b 4\nrows a 2 4"),
    "read_formula": (HOUSE, "( rank 1 a )"), "read_case": ("sort a 1 1",), "kinds_many": ((("a", 0, 2),),),
    "turned_formula": ((("a", 2, 2), ("b", 1, 1)), FORMULA), "told": (LONGER, ("rank", ("a",), 1)),
    "apart_in": (HOUSE, (FORMULA,), ("rank", ("b",), 1), TABLE),
    "cut_of": ((HOUSE, (), (("is", ("rank", ("a",), 2), 5), ("is", ("rank", ("a",), 1), 4))),),
    "is_cut": ((HOUSE, (), (("is", ("rank", ("a",), 1), None),)), [[]]), "many_fits": (LONGER, 2, 5),
    "always_pairs": (HOUSE, (FORMULA,), ("rank", ("b",), 1)), "same_always": (HOUSE, (FORMULA,), FORMULA[2]),
    "all_told": (FIRM, (("rank", ("a", "b"), 1),)), "bounds_told": (FIRM, (("rank", ("a", "b"), 1),), ("rank", ("a",), 1)),
    "division_of": (FIRM, FORMULA[2]), "refined": (FIRM, DIVISION, DIVISION), "is_division": (FIRM, DIVISION),
    "joined_up": (FIRM, (((0, 0),), ((0, 1),), ((1, 0),), ((1, 1),)), [((0, 0), (0, 1))]), "ring_of": (FIRM, DIVISION),
    "is_ring": (FIRM, DIVISION, DIVISION[:2]), "asks_of": (FIRM, (((0, 0),), ((0, 1), (1, 0), (1, 1)))),
    "safe_cells": (FIRM, (("a", "b"), ("b",))), "settling": (LONGER, ("rank", ("a",), 1), ("rank", ("a",), 1)),
    "behind": (LONGER, ("rank", ("a",), 1), 7), "refusal_tells": (LONGER, ("rank", ("a",), 1), ("rank", ("a",), 1)),
    "refused_at": (LONGER, ("rank", ("a",), 1), ("rank", ("a",), 1)),
    "least_tree": (FIRM, (("rank", ("a",), 1), ("rank", ("b",), 1)), ("rank", ("a", "b"), 1), 3),
    "same_acts": (HOUSE, (("go", "a", 1),), (("go", "a", 2),)), "parted_table": (HOUSE, (("go", "a", 1),), (("go", "a", 2),)),
    "extract_of": (LONGER, ("rank", ("b",), 1)),
    "shows": (LONGER, ("rank", ("b",), 1), 4, ([[(0, 1), (1, 1)], [(0, 0), (1, 0)]], [[(1, 1)], [(0, 0)]])),
}
# What tells whether something is so, but for names that begin as most of these do.
TRUTHS = ("holds", "holds_by", "keeps", "fits", "follows", "tells_always", "same_always", "best_sometimes", "same_acts", "shows")


def functions():
    """Return (module, function, its parameters) for all functions of the interface."""
    found = []
    for name, listed in MODULES.items():
        module = importlib.import_module("countsfall." + name)
        for entry in listed.split():
            told, _, parameters = entry[:-1].partition("(")
            found.append((module, getattr(module, told), parameters.split(",")))
    return found


def arguments_of(function, parameters):
    """Return arguments with which a function can be called, made anew."""
    return copy.deepcopy(SPECIAL.get(function.__name__) or tuple(VALUES[name] for name in parameters))


def ordered(thing):
    """Return a value with the items of its dicts as lists, so that their order counts too."""
    if isinstance(thing, dict):
        return ["dict"] + [(key, ordered(thing[key])) for key in thing]
    if isinstance(thing, (list, tuple)):
        return [type(thing).__name__] + [ordered(part) for part in thing]
    return [type(thing).__name__, thing]


def spoil(thing):
    """Change all lists and dicts in a value."""
    for part in thing.values() if isinstance(thing, dict) else thing if isinstance(thing, (list, tuple)) else ():
        spoil(part)
    if isinstance(thing, list):
        thing.append("spoilt")
    if isinstance(thing, dict):
        thing["spoilt"] = ()


def containers_of(thing):
    """Return all lists and dicts in a value."""
    parts = list(thing.values()) if isinstance(thing, dict) else thing if isinstance(thing, (list, tuple)) else []
    found = [thing] if isinstance(thing, (list, dict)) else []
    return found + [container for part in parts for container in containers_of(part)]


class InterfaceTest(unittest.TestCase):

    def test_names_and_parameters(self):
        for module, function, parameters in functions():
            self.assertEqual(list(inspect.signature(function).parameters), parameters, function.__name__)
            self.assertEqual(function.__module__, module.__name__)

    def test_functions_are_defined_in_their_files(self):
        for module, function, _ in functions():
            with open(module.__file__, encoding="ascii") as source:
                rows = ast.parse(source.read()).body
            defined = [row.name for row in rows if isinstance(row, ast.FunctionDef)]
            self.assertEqual(defined.count(function.__name__), 1, function.__name__)

    def test_classes_and_their_own_methods(self):
        for name, listed in CLASSES.items():
            module, _, told = name.partition(".")
            made = getattr(importlib.import_module("countsfall." + module), told)
            self.assertEqual([made.__module__, made.__bases__], ["countsfall." + module, (object,)])
            for entry in listed.split():
                method, _, parameters = entry[:-1].partition("(")
                self.assertEqual(",".join(inspect.signature(vars(made)[method]).parameters), parameters, method)

    def test_all_that_the_document_lists_is_here(self):
        self.assertEqual(sum(len(listed.split()) for listed in MODULES.values()), 160)
        files = {path.stem for path in pathlib.Path(errors.__file__).parent.glob("*.py")}
        # Beside the files of the interface there is one with what they share.
        self.assertEqual(files - {"__init__", "counts"}, set(MODULES) | {"errors", "book", "desk"})


class CallsTest(unittest.TestCase):

    def test_arguments_stay_as_they_are(self):
        for _, function, parameters in functions():
            arguments = arguments_of(function, parameters)
            function(*arguments)
            self.assertEqual(ordered(arguments), ordered(arguments_of(function, parameters)), function.__name__)

    def test_the_same_call_again_gives_an_equal_result(self):
        for _, function, parameters in functions():
            first = function(*arguments_of(function, parameters))
            before = ordered(copy.deepcopy(first))
            self.assertEqual(ordered(function(*arguments_of(function, parameters))), before, function.__name__)
            spoil(first)
            self.assertEqual(ordered(function(*arguments_of(function, parameters))), before, function.__name__)

    def test_what_is_returned_does_not_hang_on_the_arguments(self):
        for _, function, parameters in functions():
            arguments = arguments_of(function, parameters)
            expected = ordered(function(*arguments_of(function, parameters)))
            found = function(*arguments)
            spoil(arguments)
            self.assertEqual(ordered(found), expected, function.__name__)

    def test_no_list_or_dict_stands_twice_in_a_result(self):
        for _, function, parameters in functions():
            containers = containers_of(function(*arguments_of(function, parameters)))
            self.assertEqual(len({id(container) for container in containers}), len(containers), function.__name__)

    def test_truths_and_keys(self):
        for _, function, parameters in functions():
            found = function(*arguments_of(function, parameters))
            if function.__name__ in TRUTHS or function.__name__.startswith(("is_", "are_", "can_")):
                self.assertIsInstance(found, bool, function.__name__)
            if isinstance(found, dict):
                self.assertEqual(list(found), sorted(found), function.__name__)


if __name__ == "__main__":
    unittest.main()
