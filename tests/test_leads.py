"""Leads of one plan over another one, beside searches through all short histories (point 13)."""

import itertools
import unittest

from everybill.leads import lead, needless, never_ahead
from everybill.plans import Plan
from tests.makers import FAR_ENOUGH, MONEY, WIDEST, great_plan, pairs_of, small_plan, told_otherwise, with_parts
from tests.samples import FLEX, FULL, PLAIN
from tests.slow import Pairs, is_plain, slow_bill, slow_lead, slow_state, turning_uses

START = (0, 0, 0)
HALF = MONEY // 2
# Pairs of plans whose greatest lead takes several periods.
LONG_WAYS = (
    (Plan((1,), ((0, 2),), included=9, streak=(3, 1, 1)), Plan((0, 3), ((0, 5),), included=9, carry=1)),
    (Plan((1,), ((0, 10), (2, 0)), carry=2, streak=(1, 2, 3)), Plan((1, 7), ((0, 10), (2, 0)), streak=(1, 1, 5))),
    (
        Plan((9, 0), ((0, 2), (11, 0)), included=5, carry=2, most=9, streak=(6, 1, 7)),
        Plan((9, 0), ((0, 2), (11, 0)), included=6, carry=2, most=9),
    ),
    (
        Plan((0,), ((0, 1),), included=2, streak=(12, 2, 2)),
        Plan((0, 2), ((0, 1),), included=2, carry=2, streak=(12, 2, 2)),
    ),
    (
        Plan((1,), ((0, 0), (12, 1)), included=12, carry=2, least=2, streak=(1, 2, 2)),
        Plan((0, 2), ((0, 0), (12, 1)), included=12, carry=1, least=2, streak=(16, 2, 1)),
    ),
)
# A plan whose greatest lead over the other one is found at a use of 5 * 10 ** 8.
FAR_ONE, FAR_OTHER = Plan((0,), ((0, 1),), most=HALF), Plan((0, MONEY), ((0, 0),))


class LeadCase(unittest.TestCase):
    def check_ray(self, one, other, found, uses):
        word, history, far = found
        self.assertTrue(is_plain(found))
        for use in [*range(far, far + 30), *[use for use in uses if use > far], 10 ** 30]:
            less, more = slow_lead(one, other, (*history, use)), slow_lead(one, other, (*history, use + 1))
            self.assertGreater(more, less, (one.form, other.form, found, use))

    def check_loop(self, one, other, found, most_use):
        word, history, loop = found
        self.assertTrue(is_plain(found))
        self.assertGreater(len(loop), 0)
        self.assertTrue(most_use is None or max((*history, *loop)) <= most_use)
        for plan in (one, other):
            self.assertEqual(slow_state(plan, history), slow_state(plan, history + loop))
        gains = slow_lead(one, other, history + loop) - slow_lead(one, other, history)
        self.assertGreater(gains, 0, (one.form, other.form, found))

    def check_number(self, one, other, found, most_use):
        word, amount, history = found
        self.assertTrue(is_plain(found))
        self.assertGreaterEqual(amount, 0)
        self.assertEqual(slow_lead(one, other, history), amount)
        self.assertTrue(most_use is None or max(history, default=0) <= most_use)

    def check_lead(self, one, other, uses, most_use=None):
        """Compare with a search through all histories of these uses; return the word that is told."""
        uses = [use for use in uses if most_use is None or use <= most_use]
        pairs = Pairs(one, other, uses)
        found = lead(one, other, most_use=most_use)
        told = (one.form, other.form, most_use, found)
        far = 10 ** 12
        rays = [pair for pair in pairs.reached((START, START)) if most_use is None and slow_bill(
            one, pair[0], far + 1) - slow_bill(one, pair[0], far) > slow_bill(
            other, pair[1], far + 1) - slow_bill(other, pair[1], far)]
        if rays:
            self.assertEqual(found[0], "ray", told)
            self.check_ray(one, other, found, uses)
        else:
            wanted = pairs.lead()
            self.assertEqual(found[:1], wanted[:1], told)
            if wanted[0] == "loop":
                self.check_loop(one, other, found, most_use)
            else:
                self.assertEqual(found, wanted, told)
                self.check_number(one, other, found, most_use)
        self.check_never_ahead(one, other, found, most_use)
        return found[0]

    def check_never_ahead(self, one, other, found, most_use):
        amount = found[1] if found[0] == "number" else 10 ** 39
        for by in (-MONEY, -1, 0, 1, amount - 1, amount, amount + 1):
            wanted = found[0] == "number" and amount <= by
            self.assertIs(never_ahead(one, other, by, most_use=most_use), wanted, (one.form, other.form, by))


class ExamplesTest(unittest.TestCase):
    def test_the_examples_of_the_interface(self):
        even, uneven = Plan((120,), ((0, 10),)), Plan((100, 140), ((0, 10),))
        self.assertEqual(
            [lead(even, uneven), lead(uneven, even), never_ahead(even, uneven, 19), never_ahead(even, uneven, 20)],
            [("number", 20, (0,)), ("number", 0, ()), False, True],
        )
        self.assertEqual(
            [needless(even, uneven), needless(even, Plan((120,), ((0, 10),)), Plan((130,), ((0, 10),)))],
            [(0,), (1, 2)],
        )
        capped = Plan((500,), ((0, 10),), most=600)
        self.assertEqual(
            [lead(even, capped)[0], lead(even, capped, most_use=30), lead(capped, even)[0]],
            ["ray", ("number", 0, ()), "loop"],
        )


class SearchTest(LeadCase):
    def test_beside_a_search_with_all_uses(self):
        words = []
        for one, other in pairs_of(31, 300, small_plan):
            words.append(self.check_lead(one, other, range(FAR_ENOUGH + 1)))
        self.assertGreater(min(words.count(word) for word in ("ray", "loop", "number")), 20)

    def test_beside_a_search_with_all_uses_up_to_a_bound(self):
        words = []
        for at, (one, other) in enumerate(pairs_of(32, 200, small_plan)):
            words.append(self.check_lead(one, other, range(FAR_ENOUGH + 1), most_use=at % 40))
        self.assertNotIn("ray", words)
        self.assertGreater(min(words.count(word) for word in ("loop", "number")), 20)

    def test_beside_a_search_near_all_turns_of_great_amounts(self):
        for one, other in pairs_of(33, 120, great_plan):
            self.check_lead(one, other, turning_uses(one, other))

    def test_great_amounts_up_to_a_bound(self):
        for one, other in pairs_of(34, 120, great_plan):
            uses = turning_uses(one, other)
            most_use = uses[-len(one.fees) * 3]
            self.check_lead(one, other, [*uses, most_use], most_use)

    def test_the_search_beside_all_histories_one_by_one(self):
        lengths = []
        for one, other in [*LONG_WAYS[:1], *pairs_of(35, 100, small_plan)]:
            found = Pairs(one, other, range(14)).lead()
            histories = list(itertools.chain.from_iterable(
                itertools.product(range(14), repeat=length) for length in range(3)
            ))
            leads = [slow_lead(one, other, history) for history in histories]
            if found[0] == "number":
                lengths.append(len(found[2]))
                self.assertLessEqual(max(leads), found[1])
                if len(found[2]) < 3:
                    self.assertEqual(found[1:], (max(leads), histories[leads.index(max(leads))]))
        self.assertLessEqual({0, 1, 3}, set(lengths))


class NumberTest(LeadCase):
    def test_the_shortest_history_and_then_the_least_tuple(self):
        found = [lead(one, other) for one, other in LONG_WAYS]
        self.assertEqual(found, [
            ("number", 2, (0, 0, 10)),
            ("number", 1, (1, 1, 1)),
            ("number", 6, (5, 5, 5, 8)),
            ("number", 2, (0, 12, 12, 0, 4)),
            ("number", 2, (26, 0, 0, 14, 26)),
        ])
        for one, other in LONG_WAYS:
            self.assertEqual(self.check_lead(one, other, range(FAR_ENOUGH + 1)), "number")

    def test_equal_plans_and_plans_told_otherwise(self):
        for plan in [FLEX, FULL, PLAIN, *WIDEST]:
            self.assertEqual(lead(plan, Plan.read(str(plan))), ("number", 0, ()))
            self.assertEqual(lead(plan, plan, most_use=5), ("number", 0, ()))
        for one, other in told_otherwise():
            self.assertEqual([lead(one, other), lead(other, one)], [("number", 0, ())] * 2)

    def test_a_plan_that_costs_less_is_never_ahead(self):
        dearer = with_parts(FLEX, fees=(61,))
        self.assertEqual(lead(FLEX, dearer), ("number", 0, ()))
        self.assertEqual(lead(dearer, FLEX)[0], "loop")

    def test_a_far_use(self):
        self.assertEqual(lead(FAR_ONE, FAR_OTHER), ("number", HALF, (HALF,)))
        for most_use in (0, 10, HALF - 1):
            history = (most_use,) if most_use else ()
            self.assertEqual(lead(FAR_ONE, FAR_OTHER, most_use=most_use), ("number", most_use, history))
        for most_use in (HALF, HALF + 1, MONEY, 10 ** 40 - 1):
            self.assertEqual(lead(FAR_ONE, FAR_OTHER, most_use=most_use), ("number", HALF, (HALF,)))

    def test_the_last_of_several_far_uses(self):
        shifted = with_parts(FAR_ONE, included=12, carry=3)
        self.assertEqual(lead(shifted, FAR_OTHER), ("number", HALF, (HALF + 12,)))
        self.assertEqual(lead(shifted, FAR_OTHER, most_use=HALF + 11), ("number", HALF - 1, (HALF + 11,)))

    def test_a_bound_of_many_digits(self):
        bound = 10 ** 40 - 1
        self.assertEqual(lead(PLAIN, with_parts(PLAIN, tiers=((0, 11),)), most_use=bound), ("number", 0, ()))
        found = lead(with_parts(PLAIN, tiers=((0, 11),)), PLAIN, most_use=bound)
        self.check_loop(with_parts(PLAIN, tiers=((0, 11),)), PLAIN, found, bound)
        uneven = Plan((0, MONEY), ((0, 0), (1, 0)), streak=(1, 1, 5))
        self.assertEqual(lead(uneven, Plan((0, MONEY), ((0, 0),)), most_use=bound), ("number", 0, ()))


class RayTest(LeadCase):
    def test_rays(self):
        capped = Plan((500,), ((0, 10),), most=600)
        for one, other in (
            (PLAIN, capped),
            (Plan((0,), ((0, 1),), least=MONEY), Plan((MONEY,), ((0, 0),))),
            (Plan((0,), ((0, 1),)), Plan((MONEY,), ((0, MONEY), (12, 0)))),
            (Plan((0,), ((0, 0), (12, 2)), included=12), Plan((0,), ((0, MONEY), (12, 1)))),
            (Plan((0,), ((0, 1),), streak=(1, 1, MONEY)), Plan((0,), ((0, 1),), most=MONEY)),
        ):
            found = lead(one, other)
            self.assertEqual(found[0], "ray")
            self.check_ray(one, other, found, turning_uses(one, other))

    def test_there_is_no_ray_up_to_a_bound(self):
        one, other = Plan((0,), ((0, 1),), least=MONEY), Plan((MONEY,), ((0, 0),))
        self.assertEqual(lead(one, other, most_use=MONEY), ("number", 0, ()))
        self.check_loop(one, other, lead(one, other, most_use=MONEY + 1), MONEY + 1)
        self.assertEqual(lead(other, one), ("number", 0, ()))

    def test_a_ray_is_told_where_there_is_also_a_loop(self):
        self.assertEqual(lead(Plan((9,), ((0, 2),)), Plan((0,), ((0, 1),)))[0], "ray")

    def test_the_same_price_behind_all_turns_is_no_ray(self):
        self.assertEqual(lead(Plan((9,), ((0, 1),)), Plan((0,), ((0, 1),)))[0], "loop")
        self.assertEqual(lead(Plan((0,), ((0, 2), (12, 1)), most=5), Plan((5,), ((0, 0),))), ("number", 0, ()))


class LoopTest(LeadCase):
    def test_a_small_gain_beside_great_amounts(self):
        one = Plan((MONEY, 1), ((0, MONEY),), streak=(1, 2, MONEY))
        for other in (with_parts(one, fees=(1, MONEY - 1)), with_parts(one, fees=(MONEY - 1, 1))):
            found = lead(one, other)
            self.assertEqual(found[0], "loop")
            self.check_loop(one, other, found, None)

    def test_a_loop_far_away(self):
        one, other = Plan((0,), ((0, 1),), most=MONEY), Plan((0,), ((0, 1),), most=MONEY - 1)
        self.check_loop(one, other, lead(one, other), None)
        self.check_loop(one, other, lead(one, other, most_use=MONEY), MONEY)
        self.assertEqual(lead(one, other, most_use=MONEY - 1), ("number", 0, ()))
        streak, less = [Plan((0,), ((0, 1),), most=MONEY, streak=(1, 1, off)) for off in (MONEY - 2, MONEY - 1)]
        self.check_loop(streak, less, lead(streak, less), None)
        self.assertEqual(lead(streak, less, most_use=MONEY - 2), ("number", 0, ()))

    def test_loops_of_several_periods(self):
        one, other = Plan((5,), ((0, 0),)), Plan((0, 9), ((0, 0),))
        self.assertEqual(lead(one, other)[0], "loop")
        self.check_loop(one, other, lead(one, other), None)
        self.assertEqual(lead(one, Plan((0, 10), ((0, 0),))), ("number", 5, (0,)))


class NeverAheadTest(LeadCase):
    def test_the_empty_history_is_one_of_them(self):
        cheap, dear = Plan((0,), ((0, 0),)), Plan((9,), ((0, 0),))
        self.assertIs(never_ahead(cheap, dear, 0), True)
        self.assertIs(never_ahead(cheap, dear, -1), False)
        self.assertIs(never_ahead(cheap, dear, 1 - 10 ** 40, most_use=0), False)

    def test_rays_and_loops_are_ahead_of_every_amount(self):
        capped = Plan((500,), ((0, 10),), most=600)
        self.assertIs(never_ahead(PLAIN, capped, 10 ** 40 - 1), False)
        self.assertIs(never_ahead(capped, PLAIN, 10 ** 40 - 1), False)
        self.assertIs(never_ahead(PLAIN, capped, 0, most_use=30), True)


class NeedlessTest(unittest.TestCase):
    def wanted(self, plans):
        """Return the indexes by the words of the document, from what `lead` tells."""
        found = []
        for at, plan in enumerate(plans):
            for index, other in enumerate(plans):
                if index != at and lead(other, plan) == ("number", 0, ()):
                    if index < at or lead(plan, other) != ("number", 0, ()):
                        found.append(at)
        return tuple(sorted(set(found)))

    def test_beside_the_leads_of_each_two(self):
        sizes = set()
        pairs = pairs_of(36, 120, small_plan)
        for at, (one, other) in enumerate(pairs):
            third = with_parts(one, fees=(one.fees[0] + 1,)) if at % 2 else pairs[at - 1][0]
            for plans in ((one, other), (other, one, third), (third, one, one, other), (one, third, other, third)):
                found = needless(*plans)
                self.assertEqual(found, self.wanted(plans), [plan.form for plan in plans])
                self.assertTrue(is_plain(found))
                sizes.add(len(found))
        self.assertEqual(sizes, {0, 1, 2, 3})

    def test_one_plan(self):
        self.assertEqual(needless(FLEX), ())

    def test_of_plans_that_bill_alike_the_first_one_stays(self):
        self.assertEqual(needless(FLEX, FLEX, FLEX, FLEX), (1, 2, 3))
        for one, other in told_otherwise():
            self.assertEqual(needless(one, other), (1,))
            self.assertEqual(needless(other, one), (1,))

    def test_a_plan_that_is_sometimes_dearer_and_never_cheaper(self):
        dearer = with_parts(FLEX, fees=(61,))
        self.assertEqual([needless(FLEX, dearer), needless(dearer, FLEX)], [(1,), (0,)])
        self.assertEqual(needless(dearer, FLEX, dearer, FLEX), (0, 2, 3))
        self.assertEqual(needless(Plan((9,), ((0, 0),)), Plan((0,), ((0, 1),))), ())

    def test_a_far_use_makes_a_plan_needed(self):
        one, other = Plan((0,), ((0, 1),), least=MONEY), Plan((MONEY,), ((0, 0),))
        self.assertEqual(needless(one, other), (0,))
        self.assertEqual(needless(with_parts(one, most=MONEY), other), (1,))
        self.assertEqual(needless(with_parts(one, least=MONEY - 1), other), ())


if __name__ == "__main__":
    unittest.main()
