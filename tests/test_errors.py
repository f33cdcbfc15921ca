"""Tests of [11] and of what [4] says of errors."""

import unittest

from countsfall import errors
from countsfall.errors import CountError

FIELDS = {
    "HasRing": "ring", "IsNothing": None, "IsOpen": "name", "IsSure": "value", "Never": "index",
    "NeverRefused": None, "NoCommand": None, "NoDeed": "index", "NoIndex": "index", "NoName": "name",
    "NoRow": "row", "NoTable": "cut", "NoText": "line", "NoValue": "value", "NotFirm": "name",
    "NotSure": "places", "NotTold": "pairs", "Nothing": None, "TooMany": "most", "Wrong": "place",
}


class ErrorsTest(unittest.TestCase):

    def test_there_are_just_these_classes(self):
        found = [name for name, thing in vars(errors).items() if isinstance(thing, type)]
        self.assertEqual(sorted(found), sorted(list(FIELDS) + ["CountError"]))
        self.assertEqual(len(FIELDS), 20)

    def test_base_classes(self):
        self.assertEqual(CountError.__bases__, (ValueError,))
        for name in FIELDS:
            self.assertEqual(getattr(errors, name).__mro__[1:3], (CountError, ValueError), name)

    def test_fields_are_the_very_objects(self):
        for name, field in FIELDS.items():
            for value in (None, True, 5, "x", (), [1, [2]], {"k": []}, CountError("y"), CountError):
                if field is None:
                    self.assertEqual(vars(getattr(errors, name)()), {})
                else:
                    error = getattr(errors, name)(value)
                    self.assertIs(getattr(error, field), value, name)
                    self.assertEqual(list(vars(error)), [field])

    def test_a_list_that_changes_later_is_the_same_list(self):
        cut = [[(1,)]]
        error = errors.NoTable(cut)
        cut.append([])
        self.assertEqual(error.cut, [[(1,)], []])

    def test_they_are_caught_as_count_errors_and_not_as_one_another(self):
        for name, field in FIELDS.items():
            arguments = [] if field is None else [3]
            with self.assertRaises(CountError):
                raise getattr(errors, name)(*arguments)
            others = [getattr(errors, other) for other in FIELDS if other != name]
            self.assertNotIsInstance(getattr(errors, name)(*arguments), tuple(others))

    def test_another_number_of_arguments_is_not_taken(self):
        for name, field in FIELDS.items():
            arguments = [1] if field is None else [1, 2]
            with self.assertRaises(TypeError):
                getattr(errors, name)(*arguments)

    def test_count_error_itself(self):
        self.assertEqual(str(CountError("why")), "why")
        self.assertEqual(CountError().args, ())


if __name__ == "__main__":
    unittest.main()
