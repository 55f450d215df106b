"""The error classes of the interface."""

import unittest

from halftables import errors

FIELDS = [
    (errors.InvalidTable, ValueError, "row"),
    (errors.InvalidKey, ValueError, "key"),
    (errors.UnknownPlace, LookupError, "place"),
    (errors.InvalidNumber, ValueError, "number"),
    (errors.InvalidValues, ValueError, "index"),
    (errors.InvalidText, ValueError, "line"),
    (errors.Ended, LookupError, None),
    (errors.NothingToUndo, LookupError, None),
]


class ErrorsTest(unittest.TestCase):
    def test_base_classes(self):
        for error, base, _ in FIELDS:
            self.assertTrue(issubclass(error, base), error)
            self.assertFalse(issubclass(error, LookupError if base is ValueError else ValueError), error)

    def test_none_is_a_subclass_of_another(self):
        for error, _, _ in FIELDS:
            self.assertEqual([other for other, _, _ in FIELDS if issubclass(error, other)], [error])

    def test_fields_hold_the_thing_itself(self):
        for error, _, field in FIELDS:
            if field is None:
                self.assertEqual(vars(error()), {})
                continue
            for thing in (None, 0, 3, "text", [1, 2], (0, 0), object(), 10 ** 5000):
                raised = error(thing)
                self.assertIs(getattr(raised, field), thing)
                self.assertEqual(list(vars(raised)), [field])
                self.assertIsInstance(str(raised), str)

    def test_defined_in_the_file(self):
        for error, _, _ in FIELDS:
            self.assertEqual(error.__module__, "halftables.errors")
