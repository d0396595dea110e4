"""Point 13, and what points 2 and 3 say of errors."""

import unittest

from evenslices import errors

FIELDS = {
    **{name: "index" for name in ["InvalidLoad", "InvalidPlan", "InvalidGroups", "InvalidPairs", "InvalidCounts"]},
    **{name: "index" for name in ["InvalidCaps", "InvalidAsleep", "InvalidTicks", "InvalidLags", "InvalidShares"]},
    "InvalidSeen": "index", "InvalidSyntax": "word", "Doomed": "by", "Missed": "process", "Tired": "process",
}

PLAIN = [
    "InvalidProcess", "InvalidNumber", "InvalidRule", "InvalidCommand", "NotSingle", "NotFull", "NoRest", "NotRound",
    "NotInWindow", "Impossible", "Early", "NothingToUndo",
]


class Errors(unittest.TestCase):
    def test_classes(self):
        classes = {name for name, value in vars(errors).items() if isinstance(value, type)}
        self.assertEqual(classes, {"SliceError", *FIELDS, *PLAIN})
        self.assertEqual(errors.SliceError.__bases__, (ValueError,))

    def test_bases(self):
        for name in [*FIELDS, *PLAIN]:
            with self.subTest(name=name):
                own = getattr(errors, name)
                self.assertEqual(own.__mro__[1:3], (errors.SliceError, ValueError))
                self.assertEqual([own.__name__, own.__module__], [name, "evenslices.errors"])

    def test_fields(self):
        for name, field in FIELDS.items():
            own = getattr(errors, name)
            self.assertIn("__init__", vars(own))
            for value in [None, 0, 1, 7, 10 ** 30 - 1]:
                with self.subTest(name=name, value=value):
                    self.assertEqual(vars(own(value)), {field: value})
                    self.assertEqual(vars(own(**{field: value})), {field: value})
                    self.assertIs(getattr(own(value), field), value)

    def test_fields_must_be_given(self):
        for name, field in FIELDS.items():
            own = getattr(errors, name)
            with self.subTest(name=name):
                self.assertRaises(TypeError, own)
                self.assertRaises(TypeError, own, 1, 2)
                self.assertRaises(TypeError, own, **{field + "s": 1})

    def test_plain_errors_take_one_string(self):
        for name in ["SliceError", *PLAIN]:
            with self.subTest(name=name):
                error = getattr(errors, name)("some words")
                self.assertEqual([str(error), vars(error)], ["some words", {}])

    def test_caught_as_the_bases(self):
        for base in [errors.InvalidLoad, errors.SliceError, ValueError]:
            with self.assertRaises(base) as caught:
                raise errors.InvalidLoad(2)
            self.assertEqual(caught.exception.index, 2)
