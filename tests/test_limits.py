"""The constants of everybill.limits."""

import unittest

from everybill import limits

WANTED = {
    "MOST_FEES": 2,
    "MOST_TIERS": 4,
    "MOST_FROM": 12,
    "MOST_INCLUDED": 12,
    "MOST_CARRY": 3,
    "MOST_ROW": 2,
    "MOST_STREAK_USE": 16,
    "MOST_MONEY": 1_000_000_000,
    "MOST_RUNS": 8,
    "MOST_RUN_USES": 6,
    "MOST_TIMES": 1_000_000_000_000_000_000,
    "MOST_PERIODS": 24,
    "START": (0, 0, 0),
}


class LimitsTest(unittest.TestCase):
    def test_each_constant_has_its_value(self):
        for name, value in WANTED.items():
            with self.subTest(name):
                self.assertEqual(getattr(limits, name), value)

    def test_the_constants_are_integers_and_a_tuple_of_integers(self):
        for name, value in WANTED.items():
            with self.subTest(name):
                self.assertIs(type(getattr(limits, name)), type(value))
        self.assertEqual([type(part) for part in limits.START], [int, int, int])


if __name__ == "__main__":
    unittest.main()
