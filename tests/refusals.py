"""What several test files need: values that are no whole numbers, and how a refusal is asserted."""

import unittest
from unittest.mock import Mock

from spanforest.errors import BadStretch, Missing, SpanError, Twice

REFUSALS = (BadStretch, Twice, Missing)

MOST = 10 ** 60 - 1

# None of these is a whole number of point 1.
WRONG = (
    10 ** 60,
    -10 ** 60,
    10 ** 61,
    10 ** 5000,
    -10 ** 5000,
    True,
    False,
    None,
    "",
    "5",
    b"5",
    (),
    (5,),
    (5, 5, 5),
    [],
    [5],
    {},
    {5},
    5.0,
    float("inf"),
    float("nan"),
    5j,
    object(),
    int,
    Mock(spec=int),
)


class RefusalTest(unittest.TestCase):
    def assert_refused_with(self, expected, function, *given):
        with self.assertRaises(expected) as caught:
            function(*given)
        self.assertIs(type(caught.exception), expected)
        self.assertIsInstance(caught.exception, SpanError)
        self.assertIsInstance(caught.exception, ValueError)
        for other in REFUSALS:
            self.assertEqual(isinstance(caught.exception, other), other is expected)

    def assert_refused(self, function, *given):
        self.assert_refused_with(BadStretch, function, *given)
