"""Points 3 and 15: reckoning with quotients."""

import unittest
from fractions import Fraction
from math import floor

from onesheetmore.kinds import is_quotient
from onesheetmore.quotients import is_less, minus, plus, times, whole_of
from samples import check_calls, check_refusals
import samples

LARGE = 10 ** 20 - 1
SOME = [(0, 1), (1, 1), (-1, 1), (1, 2), (-1, 2), (1, 3), (2, 3), (4, 3), (-7, 6), (5, 6), (LARGE, LARGE - 1),
        (1, LARGE), (-LARGE, 7)]


class QuotientsTest(unittest.TestCase):
    def test_examples(self):
        self.assertEqual([minus((1, 3), (1, 2)), times((1, 2), (4, 3)), whole_of((-1, 2))], [(-1, 6), (2, 3), -1])

    def test_against_fractions(self):
        for one in SOME:
            left = Fraction(*one)
            self.assertEqual(whole_of(one), floor(left))
            for other in SOME:
                right = Fraction(*other)
                for function, expected in ((plus, left + right), (minus, left - right), (times, left * right)):
                    found = function(one, other)
                    self.assertTrue(is_quotient(found))
                    self.assertEqual(found, (expected.numerator, expected.denominator))
                self.assertIs(is_less(one, other), left < right)

    def test_nought_is_over_one(self):
        self.assertEqual(minus((1, 3), (1, 3)), (0, 1))
        self.assertEqual(times((0, 1), (4, 7)), (0, 1))

    def test_refusals(self):
        for function in (plus, minus, times, is_less):
            check_refusals(self, function, {"one": (1, 2), "other": (0, 1)},
                           {"one": samples.is_quotient, "other": samples.is_quotient})
            check_calls(self, function, {"one": (1, 2), "other": (-3, 4)})
        check_refusals(self, whole_of, {"one": (1, 2)}, {"one": samples.is_quotient})
        check_calls(self, whole_of, {"one": (7, 2)})


if __name__ == "__main__":
    unittest.main()
