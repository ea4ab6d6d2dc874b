"""Plans that are valid: their parts, forms, representations and comparisons."""

import itertools
import unittest

from everybill.errors import InvalidFees
from everybill.plans import Plan
from tests.samples import FLEX, FULL, PLAIN, SAMPLES

NAMES = ("fees", "tiers", "included", "carry", "least", "most", "streak")
MONEY = 10 ** 9

VALID_PARTS = {
    "fees": [(0,), (MONEY,), (0, MONEY), (MONEY, 0), (5, 5)],
    "tiers": [
        ((0, 0),),
        ((0, MONEY),),
        ((0, 1), (12, 2)),
        ((0, 1), (1, 1), (2, 1), (3, 1)),
        ((0, 9), (10, 5), (11, MONEY), (12, 0)),
    ],
    "included": [0, 1, 12],
    "carry": [0, 1, 2, 3],
    "least": [0, 1, MONEY],
    "most": [None, MONEY],
    "streak": [None, (1, 1, 0), (16, 2, MONEY), (1, 2, 5), (16, 1, 0)],
}
ORDINARY = {"fees": (60,), "tiers": ((0, 25),)}


def plan_of(**parts):
    """Return an ordinary plan with these parts in place of its own."""
    return Plan(**{**ORDINARY, **parts})


def plans_of_all_kinds():
    """Return plans in which each part comes with many values of the others."""
    plans = []
    for fees, tiers, streak in itertools.product(VALID_PARTS["fees"], VALID_PARTS["tiers"], VALID_PARTS["streak"]):
        for included, carry, least, most in ((0, 0, 0, None), (12, 3, MONEY, MONEY), (1, 0, 5, 5), (0, 2, 0, 0)):
            plans.append(
                Plan(fees, tiers, included=included, carry=carry, least=least, most=most, streak=streak)
            )
    return plans


class PartsTest(unittest.TestCase):
    def test_the_example_of_the_interface(self):
        flex = Plan((60,), ((0, 25), (4, 10)), included=3, carry=2, streak=(8, 2, 15))
        self.assertEqual(
            [flex.tiers, flex.most, flex.form, Plan.read(str(flex)) == flex, repr(flex)],
            [
                ((0, 25), (4, 10)),
                None,
                ((60,), ((0, 25), (4, 10)), 3, 2, 0, None, (8, 2, 15)),
                True,
                "Plan(1 fees, 2 tiers)",
            ],
        )

    def test_every_bound_is_valid_and_the_value_is_kept(self):
        for name, values in VALID_PARTS.items():
            for value in values:
                with self.subTest(name, value=value):
                    self.assertIs(getattr(plan_of(**{name: value}), name), value)

    def test_most_may_be_equal_to_least(self):
        for least in (0, 1, 70, MONEY):
            with self.subTest(least):
                self.assertEqual(plan_of(least=least, most=least).most, least)
                self.assertEqual(plan_of(least=least, most=MONEY).least, least)

    def test_the_defaults(self):
        plan = Plan((60,), ((0, 25),))
        self.assertEqual([getattr(plan, name) for name in NAMES], [(60,), ((0, 25),), 0, 0, 0, None, None])
        self.assertIs(type(plan.included), int)

    def test_the_form_has_all_parts_in_order(self):
        form = ((60, 40), ((0, 25), (4, 10)), 3, 2, 50, 90, (8, 2, 15))
        plan = Plan(**dict(zip(NAMES, form)))
        self.assertEqual(plan.form, form)
        self.assertIs(type(plan.form), tuple)
        self.assertEqual(tuple(getattr(plan, name) for name in NAMES), form)

    def test_attributes_are_set_on_the_object_when_it_is_created(self):
        self.assertLessEqual({*NAMES, "form"}, set(vars(FLEX)))

    def test_fees_and_tiers_go_by_position_or_name_and_the_others_by_name_only(self):
        self.assertEqual(Plan(tiers=((0, 25),), fees=(60,)).form, Plan((60,), ((0, 25),)).form)
        self.assertRaises(TypeError, Plan, (60,), ((0, 25),), 3)
        self.assertRaises(TypeError, Plan, (60,))

    def test_repr_counts_fees_and_tiers(self):
        self.assertEqual(repr(PLAIN), "Plan(1 fees, 1 tiers)")
        self.assertEqual(repr(FULL), "Plan(2 fees, 4 tiers)")

    def test_plans_are_true(self):
        self.assertTrue(Plan((0,), ((0, 0),)))

    def test_methods_stand_in_the_class_itself(self):
        for name in ("__init__", "read", "__str__", "__repr__", "__eq__", "__ne__"):
            self.assertIn(name, vars(Plan))
        self.assertEqual(Plan.__module__, "everybill.plans")


class EqualityTest(unittest.TestCase):
    def test_plans_with_the_same_form_are_equal(self):
        for plan in plans_of_all_kinds():
            same = Plan(**dict(zip(NAMES, plan.form)))
            self.assertIs(plan == same, True)
            self.assertIs(plan != same, False)

    def test_a_plan_that_differs_in_one_part_is_not_equal(self):
        others = dict(
            fees=(60, 60), tiers=((0, 25), (1, 25)), included=1, carry=1, least=1, most=MONEY, streak=(1, 1, 0)
        )
        for name, value in others.items():
            with self.subTest(name):
                self.assertIs(plan_of() == plan_of(**{name: value}), False)
                self.assertIs(plan_of() != plan_of(**{name: value}), True)
                self.assertIs(plan_of(**{name: value}) == plan_of(), False)

    def test_no_other_value_is_equal_to_a_plan(self):
        for value in (*SAMPLES, FLEX.form, str(FLEX), repr(FLEX), InvalidFees(FLEX), Plan):
            if value is FLEX:
                continue
            with self.subTest(repr(value)[:60]):
                self.assertIs(FLEX == value, False)
                self.assertIs(FLEX != value, True)
                self.assertIs(value == FLEX, False)
                self.assertIs(value != FLEX, True)

    def test_plans_compare_inside_tuples(self):
        again = Plan.read(str(FLEX))
        self.assertEqual(("change", FLEX), ("change", again))
        self.assertNotEqual(("change", FLEX), ("change", PLAIN))


if __name__ == "__main__":
    unittest.main()
