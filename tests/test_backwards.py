"""From a bill back to its uses, beside walks over all uses."""

import unittest

from everybill.backwards import greatest_use, uses_for
from everybill.errors import InvalidAmount, InvalidState, NotAPlan, NoUse
from everybill.plans import Plan
from tests.makers import FAR_ENOUGH, MONEY, WIDEST, great_plans, small_plans, with_parts
from tests.samples import FLEX, FULL, PLAIN, raised
from tests.slow import all_states, is_plain, slow_bill, turning_uses

FAR = 10 ** 40 - 1


class BackwardsCase(unittest.TestCase):
    def check_amount(self, plan, state, amount, bills):
        """Compare with this list of the bills of all uses from 0 on, which goes on beyond all turns."""
        told = (plan.form, state, amount)
        found = uses_for(plan, state, amount)
        endless = slow_bill(plan, state, 10 ** 50)
        if amount in bills:
            last = len(bills) - 1 - bills[::-1].index(amount)
            self.assertEqual(found, (bills.index(amount), None if endless == amount else last), told)
            self.assertTrue(is_plain(found))
        else:
            self.assertIsNone(found, told)
        below = [use for use, bill in enumerate(bills) if bill <= amount]
        if not below:
            self.assertEqual(raised(NoUse, greatest_use, plan, state, amount).amount, amount)
        else:
            self.assertEqual(greatest_use(plan, state, amount), None if endless <= amount else below[-1], told)

    def check_by_itself(self, plan, state, amount):
        """Check what is told by the bills next to it; bills never fall."""
        found = uses_for(plan, state, amount)
        if found is not None:
            first, last = found
            self.assertEqual(slow_bill(plan, state, first), amount)
            self.assertEqual(slow_bill(plan, state, 10 ** 60 if last is None else last), amount)
            self.assertTrue(first == 0 or slow_bill(plan, state, first - 1) < amount)
            self.assertTrue(last is None or slow_bill(plan, state, last + 1) > amount)
        if slow_bill(plan, state, 0) > amount:
            self.assertIs(raised(NoUse, greatest_use, plan, state, amount).amount, amount)
            self.assertIsNone(found)
            return
        greatest = greatest_use(plan, state, amount)
        if greatest is None:
            self.assertLessEqual(slow_bill(plan, state, 10 ** 60), amount)
        else:
            self.assertLessEqual(slow_bill(plan, state, greatest), amount)
            self.assertGreater(slow_bill(plan, state, greatest + 1), amount)
        if found is None:
            self.assertTrue(greatest is None or slow_bill(plan, state, greatest) < amount)
        else:
            self.assertEqual(greatest, found[1])


class ExamplesTest(unittest.TestCase):
    def test_the_examples_of_the_interface(self):
        capped = Plan((60,), ((0, 25),), included=3, most=160)
        self.assertEqual(
            [uses_for(capped, (0, 0, 0), 60), uses_for(capped, (0, 0, 0), 160), uses_for(capped, (0, 0, 0), 100)],
            [(0, 3), (7, None), None],
        )
        self.assertEqual([greatest_use(capped, (0, 0, 0), 100), greatest_use(capped, (0, 0, 0), 160)], [4, None])


class WalkTest(BackwardsCase):
    def test_beside_a_walk_over_all_uses(self):
        for plan in [*small_plans(61, 60), *[with_parts(plan, streak=(3, 1, 4)) for plan in small_plans(62, 20)]]:
            for state in all_states(plan):
                bills = [slow_bill(plan, state, use) for use in range(FAR_ENOUGH + 2)]
                for amount in range(-2, bills[FAR_ENOUGH] + 1):
                    self.check_amount(plan, state, amount, bills)

    def test_beside_the_bills_near_all_turns(self):
        for at, plan in enumerate([*great_plans(63, 60), *WIDEST, FLEX, FULL, PLAIN]):
            uses = turning_uses(plan)[at % 7::7]
            for state in all_states(plan):
                for use in uses:
                    for change in (-1, 0, 1):
                        self.check_by_itself(plan, state, slow_bill(plan, state, use) + change)


class EdgesTest(BackwardsCase):
    def test_below_at_and_above_each_turn(self):
        plan = Plan((10,), ((0, 5), (4, 2), (9, 7)), included=3, carry=2, least=20, most=60, streak=(8, 1, 15))
        for state in all_states(plan):
            bills = [slow_bill(plan, state, use) for use in range(80)]
            for bill in bills[:40]:
                for amount in (bill - 1, bill, bill + 1):
                    self.check_amount(plan, state, amount, bills)
        self.assertEqual(uses_for(plan, (0, 0, 0), 20), (0, 5))
        self.assertEqual(uses_for(plan, (0, 0, 0), 60), (15, None))
        self.assertEqual(uses_for(plan, (2, 1, 0), 5), (0, 7))

    def test_amounts_far_out(self):
        self.assertEqual(uses_for(PLAIN, (0, 0, 0), 120 + 10 ** 39), (10 ** 38, 10 ** 38))
        self.assertIsNone(uses_for(PLAIN, (0, 0, 0), 125 + 10 ** 39))
        self.assertEqual(greatest_use(PLAIN, (0, 0, 0), 129 + 10 ** 39), 10 ** 38)
        self.assertEqual(greatest_use(PLAIN, (0, 0, 0), 119 + 10 ** 39), 10 ** 38 - 1)
        for plan in [*great_plans(64, 30), *WIDEST, FLEX, FULL]:
            for state in all_states(plan):
                for amount in (MONEY - 1, MONEY, MONEY + 1, 2 * MONEY, FAR - 1, FAR, 10 ** 30):
                    self.check_by_itself(plan, state, amount)

    def test_amounts_below_every_bill(self):
        for amount in (-1, -MONEY, -FAR, 119):
            self.assertIsNone(uses_for(PLAIN, (0, 0, 0), amount))
            self.assertEqual(raised(NoUse, greatest_use, PLAIN, (0, 0, 0), amount).amount, amount)
        self.assertEqual(greatest_use(PLAIN, (0, 0, 0), 120), 0)

    def test_a_last_price_of_0(self):
        plan = Plan((5,), ((0, 3), (2, 0)), included=1)
        self.assertEqual([uses_for(plan, (0, 0, 0), amount) for amount in (5, 8, 11)], [(0, 1), (2, 2), (3, None)])
        self.assertEqual([greatest_use(plan, (0, 0, 0), amount) for amount in (5, 10, 11, FAR)], [1, 2, None, None])
        between = Plan((5,), ((0, 3), (2, 0), (4, 1)), included=1)
        self.assertEqual(uses_for(between, (0, 0, 0), 11), (3, 5))
        self.assertEqual(uses_for(Plan((5,), ((0, 0),)), (0, 0, 0), 5), (0, None))

    def test_a_greatest_bill(self):
        plan = Plan((0,), ((0, 1),), most=MONEY)
        self.assertEqual(uses_for(plan, (0, 0, 0), MONEY - 1), (MONEY - 1, MONEY - 1))
        self.assertEqual(uses_for(plan, (0, 0, 0), MONEY), (MONEY, None))
        self.assertIsNone(uses_for(plan, (0, 0, 0), MONEY + 1))
        self.assertEqual([greatest_use(plan, (0, 0, 0), MONEY + by) for by in (-1, 0, 1)], [MONEY - 1, None, None])
        below_the_fee = Plan((100,), ((0, 1),), most=40)
        self.assertEqual(uses_for(below_the_fee, (0, 0, 0), 40), (0, None))
        self.assertIsNone(uses_for(below_the_fee, (0, 0, 0), 100))

    def test_a_least_bill(self):
        plan = Plan((0,), ((0, 1),), least=MONEY)
        self.assertEqual(uses_for(plan, (0, 0, 0), MONEY), (0, MONEY))
        self.assertEqual(uses_for(plan, (0, 0, 0), MONEY + 1), (MONEY + 1, MONEY + 1))
        raised(NoUse, greatest_use, plan, (0, 0, 0), MONEY - 1)

    def test_the_state_counts(self):
        plan = Plan((10, 40), ((0, 25),), included=3, carry=2, streak=(8, 2, 15))
        for state, amount, wanted in (
            ((0, 0, 0), 10, (0, 3)), ((2, 0, 0), 10, (0, 5)), ((0, 0, 1), 10, None), ((0, 0, 1), 40, (0, 3)),
            ((0, 1, 0), 10, (0, 3)), ((0, 2, 0), 0, (0, 3)), ((0, 2, 0), 20, (4, 4)), ((0, 2, 1), 25, (0, 3)),
        ):
            self.assertEqual(uses_for(plan, state, amount), wanted)

    def test_no_use_is_told_behind_all_other_errors(self):
        raised(NotAPlan, greatest_use, None, (0, 0, 0), -1)
        raised(InvalidState, greatest_use, PLAIN, (0, 0, 1), -1)
        raised(InvalidAmount, greatest_use, PLAIN, (0, 0, 0), False)
        raised(NoUse, greatest_use, PLAIN, (0, 0, 0), -1)
        self.assertIsNone(uses_for(PLAIN, (0, 0, 0), -1))


if __name__ == "__main__":
    unittest.main()
