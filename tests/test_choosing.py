"""The cheapest rows of plans, beside all rows of short histories (point 15)."""

import itertools
import random
import unittest

from everybill.choosing import cheapest, row_cost
from everybill.errors import InvalidAmount, InvalidRow, InvalidUses, NoPlans, NotAPlan
from everybill.plans import Plan
from tests.makers import MONEY, WIDEST, great_plans, small_plans
from tests.samples import FLEX, FULL, PLAIN, SAMPLES, is_integer, raised
from tests.slow import is_plain, slow_walk
from tests.slow_rows import slow_cheapest, slow_cost

SMALL, LARGE = Plan((50,), ((0, 10),), included=2), Plan((100,), ((0, 1),), included=2)


class ExamplesTest(unittest.TestCase):
    def test_the_examples_of_the_interface(self):
        self.assertEqual(
            [
                cheapest((0, 20, 20, 0), SMALL, LARGE, change=30),
                row_cost((0, 20, 20, 0), (0, 1, 1, 1), SMALL, LARGE, change=30),
            ],
            [(396, (0, 1, 1, 0)), 416],
        )


class RowsTest(unittest.TestCase):
    def test_beside_all_rows_of_short_histories(self):
        chooser = random.Random(71)
        plans = [*small_plans(72, 60), *great_plans(73, 12)]
        several = 0
        for at in range(150):
            chosen = [chooser.choice(plans) for plan in range(1 + at % 4)]
            if at % 5 == 0:
                chosen[-1] = chosen[0]
            uses = tuple(chooser.choice((0, 1, 5, 9, 14, 30, MONEY)) for use in range(chooser.randint(0, 6 - at % 4)))
            change = chooser.choice((0, 0, 0, 1, 2, MONEY))
            found = cheapest(uses, *chosen, change=change)
            self.assertEqual(found, slow_cheapest(uses, chosen, change))
            self.assertTrue(is_plain(found))
            several += len(set(found[1])) > 1
            for row in itertools.product(range(len(chosen)), repeat=len(uses)):
                cost = row_cost(uses, row, *chosen, change=change)
                self.assertEqual(cost, slow_cost(uses, row, chosen, change))
                self.assertTrue(is_integer(cost))
        self.assertGreater(several, 15)

    def test_of_equal_costs_the_least_tuple(self):
        flat, same = Plan((5,), ((0, 0),)), Plan((5, 5), ((0, 0),))
        self.assertEqual(cheapest((1, 2, 3), flat, same), (15, (0, 0, 0)))
        self.assertEqual(cheapest((1, 2, 3), flat, flat, flat, flat), (15, (0, 0, 0)))
        # The fee of 0 comes only behind the start of the uneven plan.
        uneven = Plan((5, 0), ((0, 0),))
        self.assertEqual(cheapest((1, 1, 1), flat, uneven), (10, (0, 1, 1)))
        self.assertEqual(cheapest((1, 1, 1), uneven, flat), (10, (0, 0, 0)))
        self.assertEqual(cheapest((1, 1, 1, 1), uneven, flat, change=0), (10, (0, 0, 0, 0)))
        self.assertEqual(cheapest((1, 1, 1), flat, uneven, change=1), (10, (1, 1, 1)))

    def test_only_the_index_counts(self):
        # A change to the same plan begins at its start again.
        dear_later = Plan((0, 9), ((0, 0),))
        self.assertEqual(cheapest((1, 1, 1, 1), dear_later), (18, (0, 0, 0, 0)))
        self.assertEqual(cheapest((1, 1, 1, 1), dear_later, dear_later), (0, (0, 1, 0, 1)))
        self.assertEqual(cheapest((1, 1, 1, 1), dear_later, dear_later, change=3), (9, (0, 1, 0, 1)))
        self.assertEqual(cheapest((1, 1, 1, 1), dear_later, dear_later, change=9), (18, (0, 0, 0, 0)))
        self.assertEqual(row_cost((1, 1, 1), (0, 1, 0), dear_later, dear_later, change=4), 8)
        self.assertEqual(row_cost((1, 1, 1), (1, 1, 1), dear_later, dear_later, change=4), 9)

    def test_the_empty_history(self):
        for plans in ((FLEX,), (FLEX, PLAIN, FULL, FLEX)):
            for change in (0, 5, 10 ** 40 - 1):
                self.assertEqual(cheapest((), *plans, change=change), (0, ()))
                self.assertEqual(row_cost((), (), *plans, change=change), 0)

    def test_one_plan(self):
        uses = (0, 20, 3, 9) * 6
        for plan in (FLEX, FULL, *WIDEST):
            cost = sum(bill for bill, state in slow_walk(plan, uses))
            self.assertEqual(cheapest(uses, plan, change=7), (cost, (0,) * 24))
            self.assertEqual(row_cost(uses, (0,) * 24, plan, change=7), cost)

    def test_long_histories_with_four_plans(self):
        chooser = random.Random(74)
        for at in range(30):
            plans = [chooser.choice([*small_plans(75, 20), *WIDEST, *great_plans(76, 9)]) for plan in range(4)]
            uses = tuple(chooser.choice((0, 2, 7, 13, 25, MONEY, 10 ** 40 - 1)) for use in range(24))
            change = chooser.choice((0, 1, 3, MONEY))
            cost, row = cheapest(uses, *plans, change=change)
            self.assertEqual(row_cost(uses, row, *plans, change=change), cost)
            self.assertEqual(slow_cost(uses, row, plans, change), cost)
            for place in range(24):
                for index in range(4):
                    other = (*row[:place], index, *row[place + 1:])
                    beside = slow_cost(uses, other, plans, change)
                    self.assertLessEqual((cost, row), (beside, other))
                    whole = (*row[:place], *(index,) * (24 - place))
                    self.assertLessEqual((cost, row), (slow_cost(uses, whole, plans, change), whole))

    def test_a_change_that_is_left_out_costs_nothing(self):
        uses = (0, 20, 20, 0)
        self.assertEqual(cheapest(uses, SMALL, LARGE), cheapest(uses, SMALL, LARGE, change=0))
        self.assertEqual(row_cost(uses, (0, 1, 0, 1), SMALL, LARGE), slow_cost(uses, (0, 1, 0, 1), (SMALL, LARGE), 0))


class ErrorsTest(unittest.TestCase):
    def both(self, error, uses, *plans, row=None, **named):
        """Return the errors of both functions, each of which must raise this one."""
        return [raised(error, cheapest, uses, *plans, **named), raised(error, row_cost, uses, row, *plans, **named)]

    def test_uses(self):
        for value in SAMPLES:
            if type(value) is tuple and value in ((), (0,), (1, 2), (8, 2, 15)):
                self.assertEqual(cheapest(value, FLEX)[1], (0,) * len(value))
                continue
            for error in self.both(InvalidUses, value, change=None):
                if type(value) is tuple:
                    wanted = [at for at, use in enumerate(value) if not (is_integer(use) and use >= 0)][0]
                    self.assertEqual(error.index, wanted)
                else:
                    self.assertIsNone(error.index)
        for at in range(24):
            for error in self.both(InvalidUses, ((1,) * at + (True, None))[:24], 5, change=-1):
                self.assertEqual(error.index, at)

    def test_plans(self):
        self.both(NoPlans, (1, 2), change=-1)
        self.both(NoPlans, ())
        for value in SAMPLES:
            if type(value) is not Plan:
                for plans in ((value,), (FLEX, value), (FLEX, FULL, value, None)):
                    for error in self.both(NotAPlan, (1, 2), *plans, change=-1):
                        self.assertIs(error.value, value)

    def test_rows_that_are_no_tuple_of_that_length(self):
        for value in SAMPLES:
            if type(value) is not tuple or len(value) != 2:
                error = raised(InvalidRow, row_cost, (1, 2), value, FLEX, FULL, change=-1)
                self.assertIsNone(error.index)
        for value in ((), (0,), (0, 0, 0), (None,) * 3, [0, 0], "00", {0: 0, 1: 1}):
            self.assertIsNone(raised(InvalidRow, row_cost, (1, 2), value, FLEX).index)
        self.assertIsNone(raised(InvalidRow, row_cost, (), (0,), FLEX).index)
        self.assertIsNone(raised(InvalidRow, row_cost, (), [], FLEX).index)

    def test_the_first_element_that_is_no_index(self):
        for wrong in (-1, 2, 10 ** 40 - 1, True, False, None, "0", (0,), [0], FLEX, 1 - 10 ** 40):
            for at in range(3):
                row = ((0, 1)[:at] + (wrong, wrong, -1))[:3]
                error = raised(InvalidRow, row_cost, (1, 2, 3), row, FLEX, FULL, change=-1)
                self.assertEqual(error.index, at)
        self.assertEqual(raised(InvalidRow, row_cost, (1, 2), (0, 1), FLEX).index, 1)

    def test_change(self):
        for value in SAMPLES:
            if is_integer(value) and value >= 0:
                self.assertEqual(row_cost((1, 1), (0, 1), PLAIN, PLAIN, change=value), 260 + value)
                self.assertEqual(cheapest((1, 1), PLAIN, PLAIN, change=value), (260, (0, 0)))
            else:
                for error in self.both(InvalidAmount, (1, 2), FLEX, FULL, row=(0, 1), change=value):
                    self.assertIs(error.value, value)

    def test_of_several_wrong_parameters_the_first_one_counts(self):
        order = (
            (InvalidUses, "uses", (1, -1)), (NotAPlan, "plan", None), (InvalidRow, "row", (0, True)),
            (InvalidAmount, "change", True),
        )
        for choice in range(1, 16):
            wrong = [part for at, part in enumerate(order) if choice >> at & 1]
            given = {"uses": (1, 2), "plan": FLEX, "row": (0, 1), "change": 0}
            given.update({name: value for error, name, value in wrong})
            plans = (FULL, given["plan"])
            raised(wrong[0][0], row_cost, given["uses"], given["row"], *plans, change=given["change"])
            wrong = [part for part in wrong if part[1] != "row"]
            if wrong:
                raised(wrong[0][0], cheapest, given["uses"], *plans, change=given["change"])

    def test_names_of_the_parameters(self):
        self.assertRaises(TypeError, cheapest, (1,), FLEX, changes=1)
        self.assertEqual(raised(NoPlans, cheapest, uses=(1,)).args, ())
        raised(NoPlans, row_cost, uses=(1,), row=(0,))
        raised(NoPlans, row_cost, row=(0,), uses=(1,), change=None)


if __name__ == "__main__":
    unittest.main()
