"""Histories and runs, beside histories that are written out use by use (points 10 and 11)."""

import itertools
import random
import unittest

from everybill.histories import bills, long_run, state_after, total
from everybill.plans import Plan
from tests.makers import MONEY, WIDEST, great_plans, small_plans
from tests.samples import FLEX, FULL, PLAIN
from tests.slow import all_states, is_plain, slow_state, slow_total, slow_walk

START = (0, 0, 0)
TIMES = 10 ** 18
PLANS = [FLEX, FULL, PLAIN, *WIDEST, *small_plans(11, 40), *great_plans(12, 20)]


def chosen_uses(chooser, most):
    return tuple(chooser.choice((0, 1, 2, 3, 5, 8, 13, 17, 30)) for use in range(chooser.randint(1, most)))


def cases():
    """Return triples of a plan, one of its states and a maker of choices."""
    chooser = random.Random(13)
    return [(plan, state, chooser) for plan in PLANS for state in all_states(plan)]


def written_out(runs):
    """Return the history for which the runs stand."""
    return tuple(itertools.chain.from_iterable(uses * times for uses, times in runs))


def doubled(plan, runs, state):
    """Return the total and the state behind runs of many repetitions, by tables that double the repetitions."""
    amount = 0
    for uses, times in runs:
        table = {start: (slow_total(plan, uses, start), slow_state(plan, uses, start)) for start in all_states(plan)}
        while times:
            if times % 2:
                amount, state = amount + table[state][0], table[state][1]
            table = {
                start: (more + table[behind][0], table[behind][1]) for start, (more, behind) in table.items()
            }
            times //= 2
    return amount, state


class ExamplesTest(unittest.TestCase):
    def test_the_examples_of_the_interface(self):
        flex = Plan((60, 40), ((0, 25), (4, 10)), included=3, carry=2)
        runs = (((1, 7), 3), ((0,), 1))
        self.assertEqual(
            [list(bills(flex, (1, 7))), total(flex, runs), state_after(flex, runs)],
            [[(60, (2, 0, 1)), (90, (0, 0, 0))], 510, (2, 0, 1)],
        )
        self.assertEqual(
            [total(flex, (((1, 7), 10 ** 18),)) == 150 * 10 ** 18, long_run(flex, (0,))], [True, (1, 2, 100)]
        )


class BillsTest(unittest.TestCase):
    def test_beside_a_walk_through_the_uses(self):
        for plan, state, chooser in cases():
            uses = chosen_uses(chooser, 24)
            found = list(bills(plan, uses, state=state))
            self.assertEqual(found, slow_walk(plan, uses, state))
            self.assertTrue(is_plain(tuple(found)))

    def test_it_is_a_generator(self):
        found = bills(FLEX, (1, 7))
        self.assertIs(iter(found), found)
        self.assertEqual(next(found), (60, (2, 0, 0)))
        self.assertEqual(next(found), (110, (0, 0, 0)))
        self.assertRaises(StopIteration, next, found)

    def test_no_uses(self):
        self.assertEqual(list(bills(FLEX, ())), [])
        self.assertEqual(list(bills(FLEX, (), state=(2, 1, 0))), [])

    def test_it_begins_at_the_start_if_no_state_is_named(self):
        self.assertEqual(list(bills(FULL, (5, 20, 40))), slow_walk(FULL, (5, 20, 40), START))

    def test_uses_of_many_digits(self):
        found = list(bills(PLAIN, (10 ** 40 - 1, 0)))
        self.assertEqual(found, [(10 ** 41 + 110, START), (120, START)])


class RunsTest(unittest.TestCase):
    def same(self, plan, runs, state, wanted):
        found = total(plan, runs, state=state), state_after(plan, runs, state=state)
        self.assertEqual(found, wanted, (plan.form, runs, state))
        self.assertTrue(is_plain(found))

    def test_beside_few_repetitions_written_out(self):
        for plan, state, chooser in cases():
            runs = tuple((chosen_uses(chooser, 6), chooser.randint(0, 40)) for run in range(chooser.randint(0, 3)))
            uses = written_out(runs)
            self.same(plan, runs, state, (slow_total(plan, uses, state), slow_state(plan, uses, state)))

    def test_each_number_of_repetitions(self):
        for plan in (*WIDEST[:2], FULL, Plan((1, 2), ((0, 1),), included=1, carry=3, streak=(1, 2, 5))):
            for uses in ((0,), (17,), (2, 0, 5), (9, 9, 0, 9, 9)):
                for times in range(30):
                    wanted = slow_total(plan, uses * times), slow_state(plan, uses * times)
                    self.same(plan, ((uses, times),), START, wanted)

    def test_many_repetitions_beside_doubling(self):
        for plan, state, chooser in cases():
            many = (TIMES, TIMES - 1, TIMES // 3, 12345678901, 1, 0)
            runs = tuple((chosen_uses(chooser, 6), chooser.choice(many)) for run in range(chooser.randint(1, 8)))
            self.same(plan, runs, state, doubled(plan, runs, state))

    def test_doubling_beside_few_repetitions_written_out(self):
        for plan, state, chooser in cases()[::5]:
            runs = ((chosen_uses(chooser, 6), chooser.randint(0, 20)), (chosen_uses(chooser, 6), 3))
            uses = written_out(runs)
            self.assertEqual(doubled(plan, runs, state), (slow_total(plan, uses, state), slow_state(plan, uses, state)))

    def test_no_runs_and_no_repetitions(self):
        for plan, state, chooser in cases()[::7]:
            self.same(plan, (), state, (0, state))
            self.same(plan, ((chosen_uses(chooser, 6), 0),), state, (0, state))

    def test_eight_runs_of_six_uses_each(self):
        runs = (((1, 9, 0, 20, 3, 3), TIMES),) * 8
        self.same(FULL, runs, START, doubled(FULL, runs, START))

    def test_a_run_of_many_repetitions_goes_on_into_the_next_one(self):
        plan = Plan((10,), ((0, 1),), included=5, carry=1)
        self.assertEqual(total(plan, (((0,), TIMES), ((8,), 1))), 10 * TIMES + 12)
        self.assertEqual(total(plan, (((8,), TIMES), ((0,), 1), ((8,), 1))), 13 * TIMES + 10 + 12)

    def test_great_bills(self):
        plan = Plan((MONEY, MONEY), ((0, MONEY),))
        self.assertEqual(total(plan, (((10 ** 40 - 1, 0), TIMES),)), TIMES * (MONEY * (10 ** 40 - 1) + 2 * MONEY))


class LongRunTest(unittest.TestCase):
    def test_beside_repetitions_written_out(self):
        for plan, state, chooser in cases():
            uses = chosen_uses(chooser, chooser.choice((1, 2, 6, 24)))
            behind = [state]
            while behind[-1] not in behind[:-1]:
                behind.append(slow_state(plan, uses, behind[-1]))
            first = behind.index(behind[-1])
            rounds = len(behind) - 1 - first
            gain = slow_total(plan, uses * rounds, behind[first])
            found = long_run(plan, uses, state=state)
            self.assertEqual(found, (first, rounds, gain), (plan.form, uses, state))
            self.assertTrue(is_plain(found))

    def test_a_state_that_is_kept_at_once(self):
        self.assertEqual(long_run(PLAIN, (5, 6)), (0, 1, 350))
        self.assertEqual(long_run(Plan((1, 2), ((0, 1),)), (0,)), (0, 2, 3))
        self.assertEqual(long_run(Plan((1, 2), ((0, 1),)), (0, 0)), (0, 1, 3))

    def test_a_long_way_into_the_round(self):
        plan = Plan((1, 2), ((0, 5),), included=1, carry=3, streak=(1, 2, 1))
        self.assertEqual(long_run(plan, (0,)), (3, 2, 3))
        self.assertEqual(long_run(plan, (0,), state=(3, 0, 1)), (0, 2, 3))
        self.assertEqual(long_run(plan, (1,)), (2, 2, 1))


if __name__ == "__main__":
    unittest.main()
