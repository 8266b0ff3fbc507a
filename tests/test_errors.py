"""The interface's list of errors."""

import inspect

from tests.helpers import Case
from twowaysigns import errors

FIELDS = {
    "BadSymbol": ["index"], "BadTerm": ["place"], "BadPlace": ["place"], "UnknownName": ["name"],
    "WrongCount": ["name", "count"], "NoTerm": ["number"], "TooLarge": ["size"], "BadAsked": ["index"],
    "BadLine": ["index"], "BadWidth": ["index"], "BooksDiffer": [], "NoSuchSymbol": ["name"], "SayingsDiffer": [],
    "HasHelpers": [], "FewClosedTerms": [], "NotAPattern": ["index"], "BadKind": ["index"], "BadWeight": ["index"],
    "NotFalling": ["index"], "BadTable": ["index"], "MissingValue": ["variable"], "NotClosed": ["index"],
    "BadText": ["column"], "UnknownVariable": ["variable"], "NoRowLeft": [], "BadMark": ["mark"],
}


class ErrorsTest(Case):

    def test_base_class(self):
        self.assertEqual((ValueError,), errors.TwoWayError.__bases__)

    def test_all_errors_are_there_and_no_others(self):
        classes = [name for name, value in vars(errors).items() if inspect.isclass(value)]
        self.assertEqual(sorted(list(FIELDS) + ["TwoWayError"]), sorted(classes))
        self.assertEqual(26, len(FIELDS))

    def test_each_stands_directly_under_the_base_class(self):
        for name in FIELDS:
            self.assertEqual((errors.TwoWayError,), getattr(errors, name).__bases__, name)

    def test_fields_by_place_and_in_order(self):
        for name, fields in FIELDS.items():
            values = [("value", number) for number in range(len(fields))]
            error = getattr(errors, name)(*values)
            self.assertEqual(values, [getattr(error, field) for field in fields], name)
            with self.assertRaises(errors.TwoWayError):
                raise error

    def test_another_number_of_fields_is_refused(self):
        for name, fields in FIELDS.items():
            if fields:
                with self.assertRaises(TypeError):
                    getattr(errors, name)(*range(len(fields) - 1))
                with self.assertRaises(TypeError):
                    getattr(errors, name)(*range(len(fields) + 1))
