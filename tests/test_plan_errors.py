"""Plans that are not valid: the error of each part, what it tells, and which one comes first."""

import unittest

from everybill import errors
from everybill.errors import InvalidCarry, InvalidFees, InvalidIncluded, InvalidLeast
from everybill.errors import InvalidMost, InvalidStreak, InvalidTiers
from everybill.plans import Plan
from tests.samples import SAMPLES, is_integer, raised

MONEY = 10 ** 9
ORDINARY = {"fees": (60,), "tiers": ((0, 25),)}


def error_of(error, **parts):
    """Return this error of an ordinary plan with these parts in place of its own."""
    return raised(error, Plan, **{**ORDINARY, **parts})


def in_range(value, low, high):
    return is_integer(value) and low <= value <= high


# Which of the sample values each part admits, by the words of point 7.
ADMITTED = {
    "fees": lambda v: v in ((0,), (1, 2)) and type(v) is tuple,
    "tiers": lambda v: v in (((0, 25),), ((0, 25), (4, 10))) and type(v) is tuple,
    "included": lambda v: in_range(v, 0, 12),
    "carry": lambda v: in_range(v, 0, 3),
    "least": lambda v: in_range(v, 0, MONEY),
    "most": lambda v: v is None or in_range(v, 0, MONEY),
    "streak": lambda v: v is None or (type(v) is tuple and v == (8, 2, 15)),
}
VALUE_ERRORS = {
    "fees": InvalidFees,
    "included": InvalidIncluded,
    "carry": InvalidCarry,
    "least": InvalidLeast,
    "most": InvalidMost,
    "streak": InvalidStreak,
}


class KindsTest(unittest.TestCase):
    def test_values_of_every_kind_are_refused_or_kept(self):
        for name, admits in ADMITTED.items():
            for value in SAMPLES:
                with self.subTest(name, value=repr(value)[:60]):
                    self.check_one(name, value, admits(value))

    def check_one(self, name, value, valid):
        if valid:
            self.assertIs(getattr(Plan(**{**ORDINARY, name: value}), name), value)
        elif name == "tiers":
            error_of(InvalidTiers, tiers=value)
        else:
            self.assertIs(error_of(VALUE_ERRORS[name], **{name: value}).value, value)


class ValuesTest(unittest.TestCase):
    def refused(self, name, values):
        for value in values:
            with self.subTest(value=value):
                self.assertIs(error_of(VALUE_ERRORS[name], **{name: value}).value, value)

    def test_fees(self):
        self.refused("fees", [(), (1, 2, 3), (-1,), (MONEY + 1,), (0, -1), (0, MONEY + 1), (-1, 0), (MONEY + 1, 0)])
        self.refused("fees", [(True,), (False,), (60, True), (True, 60), (60, False)])
        self.refused("fees", [(None,), ("60",), ((60,),), ([60],), (60, None)])
        self.refused("fees", [[60], [60, 40], 60, "60", {60: 40}, None, True])

    def test_included(self):
        self.refused("included", [-1, 13, True, False, None, "3", (3,), [3]])

    def test_carry(self):
        self.refused("carry", [-1, 4, True, False, None, "2", (2,), [2]])

    def test_least(self):
        self.refused("least", [-1, MONEY + 1, True, False, None, "5", (5,)])

    def test_most(self):
        self.refused("most", [-1, MONEY + 1, True, False, "5", (5,), [5], ()])

    def test_most_below_least(self):
        for least, most in ((1, 0), (70, 69), (MONEY, MONEY - 1), (70, -1), (1, False), (1, True), (0, False)):
            with self.subTest(least=least, most=most):
                self.assertIs(error_of(InvalidMost, least=least, most=most).value, most)

    def test_streak(self):
        self.refused("streak", [(0, 1, 0), (17, 1, 0), (1, 0, 0), (1, 3, 0), (1, 1, -1), (1, 1, MONEY + 1), (-1, 1, 0)])
        self.refused("streak", [(True, 1, 0), (1, True, 0), (1, 1, True), (1, 1, False), (None, 1, 0), (1, None, 0)])
        self.refused("streak", [(1, 1, None), (1, 1), (1, 1, 0, 0), (), (1,), ((1, 1, 0),), (1, "1", 0), (1, (1,), 0)])
        self.refused("streak", [[1, 1, 0], 0, 1, False, True, "110", {1: 1}, ([1], 1, 0)])


class TiersTest(unittest.TestCase):
    def refused(self, index, tiers):
        with self.subTest(tiers=tiers):
            found = error_of(InvalidTiers, tiers=tiers).index
            self.assertEqual(found, index)
            self.assertIsNot(type(found), bool)

    def test_no_tuple_of_one_to_four(self):
        for tiers in ((), [(0, 25)], [], None, True, 0, "tier", {0: 25}, ((0, 1), (1, 1), (2, 1), (3, 1), (4, 1))):
            self.refused(None, tiers)

    def test_five_are_refused_whatever_they_are(self):
        self.refused(None, (None, None, None, None, None))
        self.refused(None, ((1, 1), (0, 1), [], "", {}))
        self.refused(None, [(1, 1)])

    def test_the_first_from_is_0(self):
        for first in (1, -1, 12, 13, False, True, None, "0", (0,)):
            self.refused(0, ((first, 25),))
            self.refused(0, ((first, 25), (4, 10)))

    def test_froms_rise(self):
        self.refused(1, ((0, 25), (0, 10)))
        self.refused(1, ((0, 25), (-1, 10)))
        self.refused(2, ((0, 25), (4, 10), (4, 5)))
        self.refused(2, ((0, 25), (4, 10), (3, 5)))
        self.refused(3, ((0, 25), (4, 10), (5, 5), (5, 5)))
        self.refused(3, ((0, 25), (11, 10), (12, 5), (12, 5)))
        self.refused(1, ((0, 25), (12, 10), (12, 5), (12, 5))[:1] + ((0, 5), (0, 5)))

    def test_froms_are_at_most_12(self):
        self.refused(1, ((0, 25), (13, 10)))
        self.refused(3, ((0, 25), (1, 10), (12, 5), (13, 5)))

    def test_prices_stay_within_the_bounds(self):
        for price in (-1, MONEY + 1, True, False, None, "5", (5,), [5]):
            self.refused(0, ((0, price),))
            self.refused(1, ((0, 25), (4, price)))

    def test_froms_are_integers(self):
        for start in (True, None, "4", (4,), [4]):
            self.refused(1, ((0, 25), (start, 10)))

    def test_each_is_a_pair(self):
        for tier in ([0, 25], (0,), (0, 25, 1), (), None, 0, True, "ab", {0: 25, 1: 2}, ((0, 25),)):
            self.refused(0, (tier,))
        for tier in ([4, 10], (4,), (4, 10, 1), (), None, 4, False, "45", {4: 10, 5: 1}):
            self.refused(1, ((0, 25), tier))
            self.refused(1, ((0, 25), tier, None))

    def test_the_first_wrong_one_counts(self):
        self.refused(0, ((0, -1), (0, -1), None))
        self.refused(1, ((0, 1), [4, 10], (13, 1)))


class OrderTest(unittest.TestCase):
    WRONG = (
        ("fees", [60], "InvalidFees"),
        ("tiers", ((1, 1),), "InvalidTiers"),
        ("included", 13, "InvalidIncluded"),
        ("carry", 4, "InvalidCarry"),
        ("least", -1, "InvalidLeast"),
        ("most", -1, "InvalidMost"),
        ("streak", (0, 0, 0), "InvalidStreak"),
    )

    def test_of_several_wrong_parts_the_first_one_counts(self):
        for choice in range(1, 2 ** len(self.WRONG)):
            wrong = [row for at, row in enumerate(self.WRONG) if choice >> at & 1]
            with self.subTest([name for name, value, error in wrong]):
                error_of(getattr(errors, wrong[0][2]), **{name: value for name, value, error in wrong})

    def test_the_order_in_which_they_are_passed_does_not_count(self):
        raised(InvalidIncluded, Plan, streak=(), most="", included=True, tiers=((0, 1),), fees=(1,))

    def test_a_wrong_part_is_told_whatever_the_later_ones_are(self):
        for later in SAMPLES:
            raised(InvalidFees, Plan, True, later, included=later, carry=later, least=later, most=later, streak=later)
            raised(InvalidTiers, Plan, (1,), (), included=later, carry=later, least=later, most=later, streak=later)
            raised(InvalidLeast, Plan, (1,), ((0, 1),), least=MONEY + 1, most=later, streak=later)

    def test_the_example_of_the_interface(self):
        error = raised(InvalidTiers, Plan, (60,), ((0, 25), (4, 10), (4, 5)), included=13)
        self.assertEqual(error.index, 2)


if __name__ == "__main__":
    unittest.main()
