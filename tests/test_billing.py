"""One bill, beside bills that are put together unit by unit (points 8 and 9)."""

import unittest

from everybill.billing import after, bill, lines, tail
from everybill.plans import Plan
from tests.makers import FAR_ENOUGH, MONEY, WIDEST, great_plans, small_plans
from tests.samples import FLEX, FULL, PLAIN
from tests.slow import all_states, full_sum, great_sum, is_plain, settle, slow_after, slow_bill, turning_uses

START = (0, 0, 0)
PLANS = [FLEX, FULL, PLAIN, *WIDEST, *small_plans(1, 40)]
TODAY = Plan((60,), ((0, 25), (4, 10)), included=3, carry=2, least=70, most=200, streak=(8, 2, 15))


def moments(plans):
    """Return the triples of a plan, one of its states and a use, for all uses up to some 70."""
    return [(plan, state, use) for plan in plans for state in all_states(plan) for use in range(71)]


class ExamplesTest(unittest.TestCase):
    def test_the_examples_of_the_interface(self):
        flex = Plan((60,), ((0, 25), (4, 10)), included=3, carry=2, streak=(8, 2, 15))
        self.assertEqual(
            [bill(flex, (0, 0, 0), 1), after(flex, (0, 0, 0), 1), bill(flex, (2, 0, 0), 7), after(flex, (2, 0, 0), 7)],
            [60, (2, 0, 0), 110, (0, 0, 0)],
        )
        self.assertEqual(
            [lines(flex, (1, 2, 0), 9), bill(flex, (1, 2, 0), 9), after(flex, (1, 2, 0), 9), tail(flex, (1, 2, 0))],
            [
                (("fee", 60), ("free", 4, 0), ("tier", 0, 4, 100), ("tier", 4, 1, 10), ("streak", -15)),
                155, (0, 2, 0), (8, 145, 10),
            ],
        )


class BillTest(unittest.TestCase):
    def test_beside_bills_unit_by_unit(self):
        for plan, state, use in moments(PLANS):
            found = bill(plan, state, use)
            self.assertEqual(found, slow_bill(plan, state, use), (plan.form, state, use))
            self.assertTrue(is_plain(found))

    def test_available_units_are_free(self):
        for carried in range(3):
            state = (carried, 0, 0)
            for use in range(4 + carried):
                self.assertEqual(bill(FLEX, state, use), 60)
            self.assertEqual(bill(FLEX, state, 4 + carried), 85)

    def test_a_unit_at_the_from_of_a_tier_has_its_price(self):
        plan = Plan((0,), ((0, 1), (4, 10), (5, 100)))
        self.assertEqual([bill(plan, START, use) for use in range(8)], [0, 1, 2, 3, 4, 14, 114, 214])

    def test_the_fee_takes_turns(self):
        plan = Plan((5, 7), ((0, 1),))
        self.assertEqual([bill(plan, (0, 0, turn), 2) for turn in (0, 1)], [7, 9])

    def test_least_and_most(self):
        plan = Plan((0,), ((0, 1),), least=3, most=5)
        self.assertEqual([bill(plan, START, use) for use in range(8)], [3, 3, 3, 3, 4, 5, 5, 5])
        self.assertEqual([bill(Plan((9,), ((0, 1),), most=0), START, use) for use in (0, 5)], [0, 0])
        self.assertEqual([bill(Plan((9,), ((0, 1),), least=4, most=4), START, use) for use in (0, 5)], [4, 4])

    def test_the_streak_is_subtracted_behind_least_and_most(self):
        plan = Plan((0,), ((0, 1),), least=3, most=5, streak=(2, 1, 4))
        self.assertEqual([bill(plan, (0, 1, 0), use) for use in range(8)], [0, 0, 0, 0, 0, 1, 1, 1])

    def test_the_streak_depends_on_the_state_only(self):
        plan = Plan((50,), ((0, 1),), streak=(8, 2, 15))
        self.assertEqual([bill(plan, (0, busy, 0), 0) for busy in (0, 1, 2)], [50, 50, 35])
        self.assertEqual([bill(plan, (0, busy, 0), 9) for busy in (0, 1, 2)], [59, 59, 44])

    def test_a_bill_never_falls_below_0(self):
        plan = Plan((5,), ((0, 1),), streak=(1, 1, MONEY))
        self.assertEqual(bill(plan, (0, 1, 0), MONEY - 5), 0)
        self.assertEqual(bill(plan, (0, 1, 0), MONEY - 4), 1)

    def test_the_sum_for_great_uses_is_the_one_unit_by_unit(self):
        for plan, state, use in moments(PLANS):
            self.assertEqual(great_sum(plan, state, use), full_sum(plan, state, use))

    def test_uses_of_many_digits(self):
        uses = (10 ** 9, 10 ** 9 + 1, 10 ** 20 + 7, 10 ** 40 - 1)
        for plan in [*PLANS, *great_plans(2, 20)]:
            for state in all_states(plan):
                for use in uses:
                    self.assertEqual(bill(plan, state, use), settle(plan, state, great_sum(plan, state, use)))
        self.assertEqual(bill(PLAIN, START, 10 ** 40 - 1), 10 ** 41 + 110)
        self.assertEqual(bill(Plan((0,), ((0, MONEY),), most=MONEY), START, 10 ** 40 - 1), MONEY)

    def test_bills_never_fall(self):
        for plan in great_plans(3, 20):
            for state in all_states(plan):
                found = [bill(plan, state, use) for use in turning_uses(plan)]
                self.assertEqual(found, sorted(found))


class AfterTest(unittest.TestCase):
    def test_beside_the_words_of_the_document(self):
        for plan, state, use in moments(PLANS):
            found = after(plan, state, use)
            self.assertEqual(found, slow_after(plan, state, use), (plan.form, state, use))
            self.assertTrue(is_plain(found))
            self.assertIn(found, all_states(plan))

    def test_carried_units(self):
        plan = Plan((0,), ((0, 1),), included=3, carry=2)
        self.assertEqual([after(plan, START, use)[0] for use in range(6)], [2, 2, 1, 0, 0, 0])
        self.assertEqual([after(plan, (2, 0, 0), use)[0] for use in range(7)], [2, 2, 2, 2, 1, 0, 0])
        self.assertEqual([after(Plan((0,), ((0, 1),), carry=3), START, use)[0] for use in range(2)], [0, 0])
        self.assertEqual([after(Plan((0,), ((0, 1),), carry=3), (2, 0, 0), use)[0] for use in range(4)], [2, 1, 0, 0])

    def test_busy_periods(self):
        plan = Plan((0,), ((0, 1),), streak=(8, 2, 15))
        self.assertEqual([after(plan, (0, busy, 0), 8)[1] for busy in (0, 1, 2)], [1, 2, 2])
        self.assertEqual([after(plan, (0, busy, 0), 7)[1] for busy in (0, 1, 2)], [0, 0, 0])
        self.assertEqual([after(Plan((0,), ((0, 1),), streak=(1, 1, 0)), START, use)[1] for use in (0, 1)], [0, 1])

    def test_turns(self):
        self.assertEqual([after(Plan((1, 2), ((0, 1),)), (0, 0, turn), 5)[2] for turn in (0, 1)], [1, 0])
        self.assertEqual(after(PLAIN, START, 5), START)

    def test_uses_of_many_digits(self):
        self.assertEqual(after(FULL, (3, 1, 1), 10 ** 40 - 1), (0, 1, 0))


class LinesTest(unittest.TestCase):
    def test_they_add_up_to_the_bill(self):
        for plan, state, use in moments(PLANS):
            found = lines(plan, state, use)
            self.assertTrue(is_plain(found))
            self.assertEqual(sum(row[-1] for row in found), slow_bill(plan, state, use), (plan.form, state, use))

    def test_they_add_up_for_great_uses(self):
        for plan in great_plans(4, 20):
            for state in all_states(plan):
                for use in [*turning_uses(plan), 10 ** 40 - 1]:
                    self.assertEqual(sum(row[-1] for row in lines(plan, state, use)), slow_bill(plan, state, use))

    def test_words_come_in_order_and_units_add_up_to_the_use(self):
        order = ["fee", "free", "tier", "least", "most", "streak"]
        for plan, state, use in moments(PLANS):
            found = lines(plan, state, use)
            words = [row[0] for row in found]
            self.assertEqual(words, sorted(words, key=order.index))
            self.assertEqual(words[0], "fee")
            self.assertEqual([word for word in set(words) - {"tier"} if words.count(word) > 1], [])
            units = [row[1] for row in found if row[0] == "free"] + [row[2] for row in found if row[0] == "tier"]
            self.assertEqual(sum(units), use)
            self.assertNotIn(0, units)
            starts = [row[1] for row in found if row[0] == "tier"]
            self.assertEqual(starts, [start for start, price in plan.tiers][:len(starts)])
            for row in found:
                if row[0] in ("least", "most", "streak"):
                    self.assertEqual(len(row), 2)
                    self.assertTrue(row[1] > 0 if row[0] == "least" else row[1] < 0)

    def test_free_units(self):
        self.assertEqual(lines(FLEX, START, 0), (("fee", 60),))
        self.assertEqual(lines(FLEX, START, 1), (("fee", 60), ("free", 1, 0)))
        self.assertEqual(lines(FLEX, (2, 0, 0), 5), (("fee", 60), ("free", 5, 0)))
        self.assertEqual(lines(PLAIN, START, 2), (("fee", 120), ("tier", 0, 2, 20)))

    def test_a_fee_and_a_price_of_0_have_their_lines(self):
        plan = Plan((0,), ((0, 0), (2, 5)))
        self.assertEqual(lines(plan, START, 0), (("fee", 0),))
        self.assertEqual(lines(plan, START, 1), (("fee", 0), ("tier", 0, 1, 0)))
        self.assertEqual(lines(plan, START, 2), (("fee", 0), ("tier", 0, 2, 0)))
        self.assertEqual(lines(plan, START, 3), (("fee", 0), ("tier", 0, 2, 0), ("tier", 2, 1, 5)))

    def test_a_raised_sum(self):
        self.assertEqual(lines(TODAY, START, 0), (("fee", 60), ("least", 10)))
        self.assertEqual(lines(TODAY, START, 4), (("fee", 60), ("free", 3, 0), ("tier", 0, 1, 25)))
        self.assertEqual(lines(Plan((60,), ((0, 1),), least=60), START, 0), (("fee", 60),))

    def test_a_lowered_sum(self):
        most = (("fee", 60), ("free", 3, 0), ("tier", 0, 4, 100), ("tier", 4, 5, 50), ("most", -10))
        self.assertEqual(lines(TODAY, START, 12), most)
        self.assertEqual(lines(TODAY, START, 11), (*most[:3], ("tier", 4, 4, 40)))

    def test_what_was_subtracted_in_fact(self):
        plan = Plan((5,), ((0, 1),), streak=(1, 1, 7))
        self.assertEqual(lines(plan, (0, 1, 0), 0), (("fee", 5), ("streak", -5)))
        self.assertEqual(lines(plan, (0, 1, 0), 9), (("fee", 5), ("tier", 0, 9, 9), ("streak", -7)))
        self.assertEqual(lines(plan, START, 9), (("fee", 5), ("tier", 0, 9, 9)))
        self.assertEqual(lines(Plan((0,), ((0, 1),), streak=(1, 1, 7)), (0, 1, 0), 0), (("fee", 0),))
        self.assertEqual(lines(Plan((5,), ((0, 1),), streak=(1, 1, 0)), (0, 1, 0), 0), (("fee", 5),))
        raised = Plan((0,), ((0, 1),), least=3, streak=(1, 1, 7))
        self.assertEqual(lines(raised, (0, 1, 0), 0), (("fee", 0), ("least", 3), ("streak", -3)))


class TailTest(unittest.TestCase):
    def test_beside_a_walk_over_all_uses(self):
        for plan in small_plans(5, 150):
            for state in all_states(plan):
                found = tail(plan, state)
                self.assertTrue(is_plain(found))
                steps = [
                    (slow_bill(plan, state, use + 1) - slow_bill(plan, state, use), slow_after(plan, state, use))
                    for use in range(FAR_ENOUGH)
                ]
                far = len(steps) - 1
                while far > 0 and steps[far - 1] == steps[-1]:
                    far -= 1
                self.assertEqual(found, (far, slow_bill(plan, state, far), steps[-1][0]), (plan.form, state))

    def test_beside_the_turns_of_great_amounts(self):
        for plan in [*WIDEST, *great_plans(6, 150)]:
            uses = turning_uses(plan)
            for state in all_states(plan):
                far, amount, step = tail(plan, state)
                self.assertEqual(amount, slow_bill(plan, state, far))
                goes_on = [
                    slow_bill(plan, state, use + 1) - slow_bill(plan, state, use) == step
                    and slow_after(plan, state, use) == slow_after(plan, state, 10 ** 12)
                    for use in uses
                ]
                for use, fits in zip(uses, goes_on):
                    self.assertTrue(fits or use < far, (plan.form, state, use))
                if far > 0:
                    self.assertIs(goes_on[uses.index(far - 1)], False, (plan.form, state))

    def test_one_price_from_the_first_unit_on(self):
        self.assertEqual(tail(PLAIN, START), (0, 120, 10))
        self.assertEqual(tail(Plan((5,), ((0, 0),)), START), (0, 5, 0))

    def test_the_last_use_ahead_of_the_last_turn_may_fit(self):
        self.assertEqual(tail(Plan((0,), ((0, 4),), least=8), START), (2, 8, 4))
        self.assertEqual(tail(Plan((0,), ((0, 4),), least=9), START), (3, 12, 4))
        self.assertEqual(tail(Plan((0,), ((0, 4),), most=8), START), (2, 8, 0))
        self.assertEqual(tail(Plan((0,), ((0, 4),), most=9), START), (3, 9, 0))

    def test_the_next_state_counts(self):
        self.assertEqual(tail(Plan((5,), ((0, 0),), streak=(16, 1, 1)), START), (16, 5, 0))
        self.assertEqual(tail(Plan((5,), ((0, 0),), included=12, carry=3), (3, 0, 0)), (15, 5, 0))
        self.assertEqual(tail(Plan((5,), ((0, 0),), included=12), START), (0, 5, 0))

    def test_turns_near_10_to_the_9(self):
        self.assertEqual(tail(Plan((0,), ((0, 1),), least=MONEY), START), (MONEY, MONEY, 1))
        self.assertEqual(tail(Plan((0,), ((0, 1),), most=MONEY), START), (MONEY, MONEY, 0))
        self.assertEqual(tail(Plan((0,), ((0, 1),), streak=(1, 1, MONEY)), (0, 1, 0)), (MONEY, 0, 1))
        self.assertEqual(tail(Plan((0,), ((0, 0), (12, 1)), included=12, carry=3, most=MONEY), (3, 0, 0))[0], MONEY + 27)


if __name__ == "__main__":
    unittest.main()
