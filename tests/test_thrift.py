"""Whether using less can cost more, beside searches through all short thrift histories (point 14)."""

import itertools
import unittest

from everybill.plans import Plan
from everybill.thrift import is_thrifty, loss_graph, thrift
from everybill.walks import greatest_walk
from tests.makers import FAR_ENOUGH, MONEY, WIDEST, great_plans, narrow_plans, small_plans, with_parts
from tests.samples import FLEX, FULL, PLAIN
from tests.slow import Thrifts, is_plain, slow_loss, slow_state, turning_uses

THRIFTY = ("number", 0, ())
BARE = {"streak": None, "carry": 0, "most": None, "included": 0, "least": 0}
# Plans that are not thrifty, each with the parts without which they are.
PARTS = (
    (Plan((100,), ((0, 10),), streak=(5, 1, 30)), ("streak",)),
    (Plan((9, 0), ((0, 5), (3, 1)), included=2, streak=(6, 2, 4)), ("streak",)),
    (Plan((4,), ((0, 3), (11, 0)), included=11, carry=1, streak=(12, 1, 3)), ("streak", "carry")),
    (Plan((3,), ((0, 2), (3, 3)), included=10, carry=1, streak=(11, 1, 1)), ("streak", "carry", "included")),
    (Plan((3, 1), ((0, 7),), included=10, carry=1, most=9, streak=(15, 1, 4)), ("streak", "most")),
    (Plan((8, 5), ((0, 8), (4, 1)), least=8, most=8, streak=(1, 1, 3)), ("streak", "most")),
    (Plan((0,), ((0, 2),), least=2, streak=(1, 1, 1)), ("streak", "least")),
    (Plan((7,), ((0, 1), (6, 6)), included=10, carry=1, streak=(12, 2, 3)), ("streak", "included")),
)
# Plans that are not thrifty, but are so up to a bound of uses, and the greatest such bound.
FAR = (
    (Plan((0,), ((0, 3), (6, 2)), included=4, carry=1, most=121055819, streak=(5, 1, 1)), 60527911),
    (Plan((2, 1), ((0, 2), (8, 1), (12, 1)), included=3, carry=1, most=MONEY, streak=(4, 2, 1)), MONEY - 7),
)


class ThriftCase(unittest.TestCase):
    def check_loop(self, plan, found, most_use):
        word, pairs, loop = found
        self.assertTrue(is_plain(found))
        self.assertGreater(len(loop), 0)
        for less, more in pairs + loop:
            self.assertTrue(0 <= less <= more and (most_use is None or more <= most_use))
        for at in (0, 1):
            ahead, behind = [tuple(pair[at] for pair in row) for row in (pairs, pairs + loop)]
            self.assertEqual(slow_state(plan, ahead), slow_state(plan, behind))
        self.assertGreater(slow_loss(plan, pairs + loop), slow_loss(plan, pairs), (plan.form, found))

    def check_thrift(self, plan, uses, most_use=None):
        """Compare with a search through all thrift histories of these uses; return the word that is told."""
        uses = [use for use in uses if most_use is None or use <= most_use]
        found, wanted = thrift(plan, most_use=most_use), Thrifts(plan, uses).lead()
        self.assertEqual(found[:1], wanted[:1], (plan.form, most_use, found))
        if wanted[0] == "loop":
            self.check_loop(plan, found, most_use)
        else:
            self.assertEqual(found, wanted, (plan.form, most_use))
            self.assertTrue(is_plain(found))
            self.assertEqual(slow_loss(plan, found[2]), found[1])
        if most_use is None:
            self.assertIs(is_thrifty(plan), wanted[0] == "number" and wanted[1] == 0)
        return found[0]


class ExamplesTest(unittest.TestCase):
    def test_the_examples_of_the_interface(self):
        busy = Plan((100,), ((0, 10),), streak=(5, 1, 30), most=130)
        self.assertEqual(
            [is_thrifty(busy), is_thrifty(Plan((100,), ((0, 25), (4, 10)), included=3, carry=2)), thrift(busy, most_use=4)],
            [False, True, ("number", 0, ())],
        )


class SearchTest(ThriftCase):
    def test_beside_a_search_with_all_uses(self):
        plans = [*small_plans(51, 250), *narrow_plans(58, 60)]
        words = [self.check_thrift(plan, range(FAR_ENOUGH + 1)) for plan in plans]
        self.assertGreater(min(words.count(word) for word in ("loop", "number")), 50)

    def test_beside_a_search_with_all_uses_up_to_a_bound(self):
        words = []
        for at, plan in enumerate(small_plans(52, 250)):
            words.append(self.check_thrift(plan, range(FAR_ENOUGH + 1), most_use=at % 40))
        self.assertGreater(min(words.count(word) for word in ("loop", "number")), 50)

    def test_beside_a_search_near_all_turns_of_great_amounts(self):
        for plan in great_plans(53, 60):
            uses = turning_uses(plan)
            self.check_thrift(plan, uses)
            for most_use in (uses[-1], uses[-4], uses[-9]):
                self.check_thrift(plan, uses, most_use)

    def test_the_search_beside_all_thrift_histories_one_by_one(self):
        words = []
        for plan in small_plans(54, 60):
            uses = range(plan.included + 4) if plan.included < 4 else (0, 3, plan.included, plan.included + 2)
            found = Thrifts(plan, uses).lead()
            words.append(found[0])
            if found[0] == "number":
                pairs = [(less, more) for less in uses for more in uses if less <= more]
                rows = [row for length in range(3) for row in itertools.product(pairs, repeat=length)]
                self.assertEqual(max(slow_loss(plan, row) for row in rows), found[1])
        self.assertEqual(set(words), {"loop", "number"})

    def test_the_greatest_losses_from_all_pairs_of_states(self):
        # At the starts no loss was ever seen between 0 and a loop, elsewhere there are many.
        lengths = set()
        for at, plan in enumerate([*small_plans(55, 150), *narrow_plans(59, 90)]):
            most_use = (None, 5, 20)[at % 3]
            uses = [use for use in range(FAR_ENOUGH + 1) if most_use is None or use <= most_use]
            search, graph = Thrifts(plan, uses), loss_graph(plan, most_use)
            self.assertEqual(
                {pair: sorted(steps) for pair, steps in graph.items()},
                {pair: sorted(steps) for pair, steps in search.steps.items()},
            )
            if thrift(plan, most_use=most_use)[0] == "number":
                for pair in [*list(graph)[:6], *list(graph)[6::9]]:
                    found = greatest_walk(graph, pair)
                    self.assertEqual(found, search.lead(pair), (plan.form, most_use, pair))
                    lengths.add(len(found[2]))
        self.assertLessEqual({0, 1, 2}, lengths)


class PartsTest(ThriftCase):
    def test_plans_that_lose_only_by_one_of_their_parts(self):
        for plan, names in PARTS:
            self.check_loop(plan, thrift(plan), None)
            self.assertIs(is_thrifty(plan), False)
            for name in BARE:
                less = with_parts(plan, **{name: BARE[name]})
                self.assertIs(is_thrifty(less), name in names, (plan.form, name))
                self.check_thrift(less, range(FAR_ENOUGH + 1))

    def test_plans_without_a_streak_are_thrifty(self):
        for plan in [*small_plans(56, 100), *great_plans(57, 100), *WIDEST, FLEX, FULL, PLAIN]:
            less = with_parts(plan, streak=None)
            self.assertEqual([thrift(less), is_thrifty(less)], [THRIFTY, True])
        self.assertEqual(thrift(with_parts(FLEX, streak=(8, 2, 0))), THRIFTY)

    def test_a_plan_that_loses_only_by_a_streak_that_pays(self):
        # One unit more costs 10 and makes the period busy, which saves 30 in the next one.
        for price, wanted in ((10, False), (29, False), (30, True), (31, True)):
            plan = Plan((100,), ((0, price),), streak=(5, 1, 30))
            self.assertIs(is_thrifty(plan), wanted, price)
        # A row of two busy periods costs twice, but each busy period behind it costs one unit and saves 30.
        self.assertIs(is_thrifty(Plan((100,), ((0, 29),), streak=(5, 2, 30))), False)


class FarTest(ThriftCase):
    def test_plans_that_lose_only_by_far_uses(self):
        for plan, bound in FAR:
            uses = turning_uses(plan)
            self.assertEqual(self.check_thrift(plan, uses), "loop")
            for most_use in (0, 20, 1000, bound):
                self.assertEqual(thrift(plan, most_use=most_use), THRIFTY)
            for most_use in (bound + 1, bound + 2, MONEY * 2, 10 ** 40 - 1):
                self.check_loop(plan, thrift(plan, most_use=most_use), most_use)

    def test_bounds(self):
        busy = Plan((100,), ((0, 10),), streak=(5, 1, 30), most=130)
        for most_use in (0, 1, 4):
            self.assertEqual(thrift(busy, most_use=most_use), THRIFTY)
        for most_use in (5, 6, MONEY, 10 ** 40 - 1):
            self.check_loop(busy, thrift(busy, most_use=most_use), most_use)
        for plan in [*WIDEST, FLEX, FULL, PLAIN]:
            self.check_thrift(plan, [0], 0)
            self.check_thrift(plan, turning_uses(plan), 10 ** 40 - 1)

    def test_a_bound_is_passed_by_name_and_none_is_no_bound(self):
        self.assertEqual(thrift(FLEX, most_use=None), thrift(FLEX))


if __name__ == "__main__":
    unittest.main()
