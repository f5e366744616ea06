"""Tests of spanforest.errors: the refusals and how they stand under one another."""

import unittest

from spanforest import errors
from spanforest.errors import BadStretch, Missing, SpanError, Twice

REFUSALS = (BadStretch, Twice, Missing)


class TestErrors(unittest.TestCase):
    def test_span_error_stands_under_value_error(self):
        self.assertEqual(SpanError.__bases__, (ValueError,))

    def test_refusals_stand_straight_under_span_error(self):
        for refusal in REFUSALS:
            self.assertEqual(refusal.__bases__, (SpanError,))

    def test_no_refusal_stands_under_another(self):
        for one in REFUSALS:
            for other in REFUSALS:
                self.assertEqual(issubclass(one, other), one is other)

    def test_each_is_defined_in_its_file(self):
        for name in ("SpanError", "BadStretch", "Twice", "Missing"):
            found = getattr(errors, name)
            self.assertEqual(found.__module__, "spanforest.errors")
            self.assertEqual(found.__name__, name)

    def test_each_can_be_raised_and_caught_as_value_error(self):
        for refusal in REFUSALS:
            with self.assertRaises(ValueError) as caught:
                raise refusal("why")
            self.assertIs(type(caught.exception), refusal)


if __name__ == "__main__":
    unittest.main()
