"""States that are reached and states that are told apart, beside searches through all short histories (point 12)."""

import itertools
import random
import unittest

from everybill.plans import Plan
from everybill.states import alike, apart, classes, states
from tests.makers import FAR_ENOUGH, MONEY, WIDEST, great_plan, great_plans, pairs_of
from tests.makers import small_plan, small_plans, told_otherwise, with_parts
from tests.samples import FLEX, FULL, PLAIN
from tests.slow import Pairs, all_states, is_plain, slow_bill, slow_states, slow_walk, turning_uses

START = (0, 0, 0)
USES = range(FAR_ENOUGH + 1)


def parts(one, other, history, state=START, other_state=START):
    """Tell whether the last bills of this history are different."""
    return slow_walk(one, history, state)[-1][0] != slow_walk(other, history, other_state)[-1][0]


class ExamplesTest(unittest.TestCase):
    def test_the_examples_of_the_interface(self):
        plain, carrying = Plan((60,), ((0, 25),), included=3), Plan((60,), ((0, 25),), included=3, carry=1)
        self.assertEqual(
            [
                states(carrying), alike(plain, carrying), apart(plain, carrying),
                apart(carrying, carrying, other_state=(1, 0, 0)),
            ],
            [((0, 0, 0), (1, 0, 0)), False, (0, 4), (4,)],
        )
        free = Plan((60,), ((0, 0),), included=3, carry=1)
        self.assertEqual(
            [classes(carrying), classes(free), apart(free, Plan((60,), ((0, 0),)))],
            [(((0, 0, 0),), ((1, 0, 0),)), (((0, 0, 0), (1, 0, 0)),), None],
        )


class StatesTest(unittest.TestCase):
    def test_beside_a_walk_over_all_uses(self):
        for plan in [FLEX, FULL, PLAIN, *WIDEST, *small_plans(21, 200), *great_plans(22, 100)]:
            found = states(plan)
            self.assertEqual(found, slow_states(plan, range(40)), plan.form)
            self.assertTrue(is_plain(found))

    def test_states_that_no_history_reaches_are_left_out(self):
        self.assertEqual(states(Plan((5,), ((0, 1),), carry=3)), (START,))
        self.assertEqual(states(Plan((5, 6), ((0, 1),), carry=3)), (START, (0, 0, 1)))
        self.assertEqual(states(Plan((5,), ((0, 1),), included=12, carry=2)), (START, (1, 0, 0), (2, 0, 0)))
        busy = states(Plan((5,), ((0, 1),), included=1, carry=1, streak=(2, 2, 5)))
        self.assertEqual(busy, ((0, 0, 0), (0, 1, 0), (0, 2, 0), (1, 0, 0)))

    def test_the_most_states(self):
        self.assertEqual([len(states(plan)) for plan in WIDEST], [21, 18, 19, 23])
        self.assertEqual(sorted(set(all_states(WIDEST[3])) - set(states(WIDEST[3]))), [(0, 0, 1)])


class ApartTest(unittest.TestCase):
    def check_pairs(self, one, other, uses, chooser):
        pairs = Pairs(one, other, uses)
        chosen = chooser.sample(sorted(pairs.steps), min(6, len(pairs.steps)))
        for state, other_state in [(START, START), *chosen]:
            found = apart(one, other, state=state, other_state=other_state)
            told = (one.form, other.form, state, other_state)
            self.assertEqual(found, pairs.apart((state, other_state)), told)
            self.assertTrue(is_plain(found))
            self.assertTrue(found is None or parts(one, other, found, state, other_state), told)
        self.assertIs(alike(one, other), pairs.apart((START, START)) is None)

    def test_beside_a_search_with_all_uses(self):
        chooser = random.Random(23)
        for one, other in pairs_of(24, 120, small_plan):
            self.check_pairs(one, other, USES, chooser)

    def test_beside_a_search_near_all_turns_of_great_amounts(self):
        chooser = random.Random(25)
        for one, other in pairs_of(26, 80, great_plan):
            self.check_pairs(one, other, turning_uses(one, other), chooser)

    def test_the_search_beside_all_histories_one_by_one(self):
        found = []
        for one, other in pairs_of(27, 400, small_plan):
            if one.included < 3 and other.included < 3 and len(one.tiers) == len(other.tiers) == 1:
                found.append(Pairs(one, other, range(16)).apart((START, START)))
                histories = itertools.chain.from_iterable(
                    itertools.product(range(16), repeat=length) for length in (1, 2, 3)
                )
                wanted = next((history for history in histories if parts(one, other, history)), None)
                if wanted is not None or found[-1] is None:
                    self.assertEqual(found[-1], wanted, (one.form, other.form))
        self.assertLessEqual({None, 1, 2}, {history and len(history) for history in found})

    def test_histories_of_some_length(self):
        one = Plan((5,), ((0, 1),), streak=(4, 2, 3))
        self.assertEqual(apart(one, with_parts(one, streak=(4, 2, 2))), (4, 4, 0))
        self.assertEqual(apart(one, with_parts(one, streak=(5, 2, 3))), (4, 4, 0))
        self.assertEqual(apart(one, with_parts(one, streak=(4, 1, 3))), (4, 0))
        both = Plan((5, 5), ((0, 0),), included=1, carry=3)
        priced = with_parts(both, tiers=((0, 1),))
        self.assertEqual(apart(priced, with_parts(priced, carry=2)), (0, 0, 0, 4))
        self.assertEqual(apart(priced, priced, other_state=(0, 0, 1)), None)
        self.assertEqual(apart(both, with_parts(both, carry=0)), None)

    def test_the_second_use_of_a_stretch_may_part(self):
        self.assertEqual(apart(Plan((5,), ((0, 1),)), Plan((5,), ((0, 2),))), (1,))
        self.assertEqual(apart(Plan((5,), ((0, 1), (3, 1))), Plan((5,), ((0, 1), (3, 2)))), (4,))
        self.assertEqual(apart(Plan((5,), ((0, 1),)), Plan((6,), ((0, 1),))), (0,))

    def test_equal_plans_and_plans_told_otherwise(self):
        for plan in [FLEX, FULL, PLAIN, *WIDEST]:
            again = Plan.read(str(plan))
            for state in all_states(plan):
                self.assertIsNone(apart(plan, again, state=state, other_state=state))
            self.assertIs(alike(plan, again), True)
        for one, other in told_otherwise():
            self.assertIsNone(apart(one, other), (one.form, other.form))
            self.assertIsNone(apart(other, one))
            self.assertIs(alike(one, other), True)

    def test_states_of_both_plans(self):
        one = Plan((5,), ((0, 1),), included=2, carry=3)
        other = Plan((5,), ((0, 1),), included=4, carry=3)
        self.assertEqual(apart(one, other, state=(2, 0, 0)), (0, 6))
        self.assertEqual(apart(one, other, state=(3, 0, 0), other_state=(1, 0, 0)), (0, 6))
        self.assertEqual(apart(one, other, state=(3, 0, 0), other_state=(3, 0, 0)), (6,))
        turns = Plan((5, 6), ((0, 1),))
        self.assertEqual(apart(turns, turns, state=(0, 0, 1)), (0,))
        self.assertEqual(apart(turns, Plan((6, 5), ((0, 1),)), state=(0, 0, 1)), None)

    def test_what_parts_may_lie_near_10_to_the_9(self):
        plan = Plan((0,), ((0, 1),))
        self.assertEqual(apart(with_parts(plan, least=MONEY), Plan((MONEY,), ((0, 0),))), (MONEY + 1,))
        self.assertEqual(apart(plan, with_parts(plan, most=MONEY)), (MONEY + 1,))
        self.assertEqual(apart(with_parts(plan, most=MONEY - 1), with_parts(plan, most=MONEY)), (MONEY,))
        streak = with_parts(plan, streak=(1, 1, MONEY))
        self.assertEqual(apart(streak, with_parts(plan, streak=(1, 1, MONEY - 1))), (1, MONEY))
        self.assertEqual(apart(streak, streak, other_state=(0, 1, 0)), (1,))
        included = with_parts(plan, included=12, carry=3, tiers=((0, 0), (12, 1)))
        far = apart(included, with_parts(included, most=MONEY), state=(3, 0, 0), other_state=(3, 0, 0))
        self.assertEqual(far, (MONEY + 28,))
        deep = with_parts(plan, streak=(16, 2, MONEY), fees=(0, 0))
        self.assertEqual(apart(deep, with_parts(deep, most=MONEY)), (MONEY + 1,))
        self.assertEqual(apart(with_parts(deep, most=MONEY), with_parts(deep, most=MONEY, fees=(0,))), None)


class ClassesTest(unittest.TestCase):
    def check_plan(self, plan, uses):
        found = classes(plan)
        self.assertTrue(is_plain(found))
        self.assertEqual(found, tuple(sorted(found)))
        self.assertEqual(tuple(sorted(itertools.chain.from_iterable(found))), states(plan))
        pairs = Pairs(plan, plan, uses)
        for group in found:
            self.assertEqual(group, tuple(sorted(group)))
            for state in group:
                self.assertIsNone(pairs.apart((group[0], state)), plan.form)
        for group, other in itertools.combinations(found, 2):
            self.assertIsNotNone(pairs.apart((group[0], other[0])), plan.form)
        return found

    def test_beside_a_search_with_all_uses(self):
        merged = 0
        for plan in small_plans(28, 80):
            merged += len(self.check_plan(plan, USES)) < len(states(plan))
        self.assertGreater(merged, 5)

    def test_beside_a_search_near_all_turns_of_great_amounts(self):
        for plan in [*WIDEST[:2], *great_plans(29, 40)]:
            self.check_plan(plan, turning_uses(plan))

    def test_states_that_only_great_uses_tell_apart(self):
        plan = Plan((0,), ((0, 1),), included=3, carry=1, least=MONEY)
        self.assertEqual(classes(plan), ((START,), ((1, 0, 0),)))
        self.assertEqual(classes(with_parts(plan, most=MONEY)), ((START, (1, 0, 0)),))
        streak = Plan((0, 0), ((0, 0),), streak=(1, 2, MONEY))
        self.assertEqual(classes(streak), (states(streak),))

    def test_groups_of_several_states(self):
        plan = Plan((5,), ((0, 0),), streak=(3, 2, 1), included=1, carry=1)
        self.assertEqual(classes(plan), ((START, (1, 0, 0)), ((0, 1, 0),), ((0, 2, 0),)))
        equal_fees = Plan((5, 5), ((0, 1),))
        self.assertEqual(classes(equal_fees), ((START, (0, 0, 1)),))
        self.assertEqual(classes(PLAIN), ((START,),))

    def test_alike_states_bill_alike(self):
        for plan in small_plans(30, 60):
            for group in classes(plan):
                for use in USES:
                    self.assertEqual(len({slow_bill(plan, state, use) for state in group}), 1)


if __name__ == "__main__":
    unittest.main()
