"""What holds over the whole program: results may be passed on, and values that were handed in stay as they are."""

import copy
import unittest

from everybill import accounts, backwards, billing, certificates, choosing, console, histories, leads, states, thrift
from everybill.checker import accepts
from everybill.errors import FormError, StateError
from everybill.plans import Plan
from tests.makers import great_plan, great_plans, narrow_plan, pairs_of, small_plan, small_plans
from tests.samples import FLEX, FULL, PLAIN, SAMPLES

CALLS = (
    (Plan, ((60,), ((0, 25),)), {"included": 3, "carry": 2, "least": 5, "most": 900, "streak": (8, 2, 15)}),
    (Plan.read, (str(FLEX),), {}),
    (billing.bill, (FLEX, (0, 0, 0), 5), {}),
    (billing.after, (FLEX, (0, 0, 0), 5), {}),
    (billing.lines, (FLEX, (0, 0, 0), 5), {}),
    (billing.tail, (FLEX, (0, 0, 0)), {}),
    (lambda *given, **named: list(histories.bills(*given, **named)), (FLEX, (1, 7)), {"state": (1, 0, 0)}),
    (histories.total, (FLEX, (((1, 7), 3),)), {"state": (1, 0, 0)}),
    (histories.state_after, (FLEX, (((1, 7), 3),)), {"state": (1, 0, 0)}),
    (histories.long_run, (FLEX, (1, 7)), {"state": (1, 0, 0)}),
    (states.states, (FLEX,), {}),
    (states.apart, (FLEX, PLAIN), {"state": (1, 0, 0), "other_state": (0, 0, 0)}),
    (states.alike, (FLEX, PLAIN), {}),
    (states.classes, (FLEX,), {}),
    (leads.lead, (FLEX, PLAIN), {"most_use": 9}),
    (leads.never_ahead, (FLEX, PLAIN, 5), {"most_use": 9}),
    (leads.needless, (FLEX, PLAIN, FULL), {}),
    (thrift.thrift, (FLEX,), {"most_use": 9}),
    (thrift.is_thrifty, (FLEX,), {}),
    (backwards.uses_for, (FLEX, (0, 0, 0), 60), {}),
    (backwards.greatest_use, (FLEX, (0, 0, 0), 60), {}),
    (choosing.row_cost, ((1, 7), (0, 1), FLEX, PLAIN), {"change": 5}),
    (choosing.cheapest, ((1, 7), FLEX, PLAIN), {"change": 5}),
    (accounts.Account, (FLEX,), {}),
    (accounts.LimitedAccount, (FLEX, 500), {}),
    (accounts.NotedAccount, (FLEX,), {}),
    (accounts.NotedLimitedAccount, (FLEX, 500), {}),
    (lambda *given: accounts.Account(FLEX).enter(*given), (3, 5), {}),
    (lambda *given: accounts.Account(FLEX).rebilled(*given), (3, 5), {}),
    (lambda *given: accounts.Account(FLEX).change_plan(*given), (PLAIN,), {}),
    (lambda *given: accounts.Account(FLEX).do(*given), (("enter", 3, 5),), {}),
    (lambda *given: accounts.Account(FLEX).do_all(*given), ((("enter", 3, 5), ("send",)),), {}),
    (lambda deeds: accounts.Account(FLEX).tried(deeds, str), ((("enter", 3, 5), ("send",)),), {}),
    (lambda *given: accounts.LimitedAccount(FLEX, 5).set_limit(*given), (7,), {}),
    (console.Console, (FLEX, PLAIN), {}),
    (lambda *given: console.Console(FLEX, PLAIN).say(*given), ("enter 3 5",), {}),
    (certificates.certify_lead, (FLEX, PLAIN), {"most_use": 9}),
    (certificates.certify_alike, (FLEX, PLAIN), {}),
    (certificates.certify_thrift, (FLEX,), {"most_use": 9}),
    (certificates.certify_cheapest, ((1, 7), FLEX, PLAIN), {"change": 5}),
    (accepts, (("ahead", FLEX.form, PLAIN.form, (0,), -60), None), {}),
)


def copied(values):
    """Return copies of the values, with plans and errors as what they hold."""
    return [copy.deepcopy(vars(value) if hasattr(value, "__dict__") else value) for value in values]


class ErrorsTest(unittest.TestCase):
    def test_no_errors_but_the_listed_ones_and_nothing_that_was_handed_in_changes(self):
        before = copied(SAMPLES)
        for call, given, named in CALLS:
            call(*given, **named)
            for value in SAMPLES:
                for at in range(len(given)):
                    self.only_listed(call, (*given[:at], value, *given[at + 1:]), named)
                for name in named:
                    self.only_listed(call, given, {**named, name: value})
                self.only_listed(call, (value,) * len(given), {name: value for name in named})
        self.assertEqual(copied(SAMPLES), before)

    def only_listed(self, call, given, named):
        try:
            call(*given, **named)
        except (FormError, StateError):
            pass


class PassedOnTest(unittest.TestCase):
    def test_results_of_one_function_are_taken_by_the_next(self):
        pairs = [*pairs_of(131, 30, small_plan), *pairs_of(132, 15, great_plan), *pairs_of(133, 15, narrow_plan)]
        for one, other in pairs:
            for state in states.states(one):
                far, amount, step = billing.tail(one, state)
                first, last = backwards.uses_for(one, state, amount)
                self.assertTrue(first <= far and (last is None or far <= last))
                self.assertEqual(billing.bill(one, state, first), amount)
                self.assertEqual(sum(line[-1] for line in billing.lines(one, state, far)), amount)
            told = leads.lead(one, other)
            totals = [sum(amount for amount, state in histories.bills(plan, told[-1 if told[0] == "number" else 1]))
                      for plan in (one, other)]
            if told[0] == "number":
                self.assertEqual(totals[0] - totals[1], told[1])
                self.assertTrue(leads.never_ahead(one, other, told[1]))
                self.assertTrue(accepts(("ahead", one.form, other.form, told[2], told[1]), None))
            else:
                self.assertTrue(accepts((told[0], one.form, other.form, told[1], told[2]), None))
            history = states.apart(one, other)
            self.assertEqual(states.alike(one, other), history is None)
            if history is not None:
                self.assertTrue(accepts(("apart", one.form, other.form, history), None))

    def test_the_total_of_an_account_is_that_of_its_uses(self):
        for plan in [*small_plans(134, 20), *great_plans(135, 10), FLEX, FULL]:
            account = accounts.Account(plan)
            for period in range(24):
                account.enter(period, (period * 7) % 19)
            account.do_all((("send",),) * 24)
            uses = account.uses
            self.assertEqual(account.charged, histories.total(plan, tuple(((use,), 1) for use in uses[:8])) + histories.total(
                plan, tuple((uses[at:at + 4], 1) for at in range(8, 24, 4)),
                state=histories.state_after(plan, tuple(((use,), 1) for use in uses[:8])),
            ))
            self.assertEqual(choosing.cheapest(uses, plan), (account.charged, (0,) * 24))
            again = accounts.Account(Plan.read(str(plan)))
            again.do_all(account.log[:24])
            again.do_all(account.log[24:])
            self.assertEqual([again.charged, again.invoices, again.uses], [account.charged, account.invoices, uses])


if __name__ == "__main__":
    unittest.main()
