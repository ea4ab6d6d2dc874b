"""Each function ends soon for every plan within the limits."""

import random
import time
import unittest

from everybill.accounts import NotedLimitedAccount
from everybill.backwards import greatest_use, uses_for
from everybill.billing import after, bill, lines, tail
from everybill.certificates import certify_alike, certify_cheapest, certify_lead, certify_thrift
from everybill.checker import accepts
from everybill.choosing import cheapest, row_cost
from everybill.console import Console
from everybill.histories import bills, long_run, state_after, total
from everybill.leads import lead, needless, never_ahead
from everybill.plans import Plan
from everybill.states import alike, apart, classes, states
from everybill.thrift import is_thrifty, thrift
from tests.makers import MONEY, WIDEST, with_parts
from tests.slow import all_states

# "About a second", with room for a slow machine; each call takes some hundredths of a second in fact.
SECONDS = 2
GREAT_USE = 10 ** 40 - 1


def great_pairs():
    """Return pairs of plans with two fees, three carried units, a streak and great amounts."""
    chooser = random.Random(41)
    pairs = [(one, other) for one in WIDEST for other in WIDEST]
    for one in WIDEST:
        for shift in (0, 1, MONEY // 2):
            pairs.append((one, with_parts(one, fees=(MONEY - shift, 1 + shift))))
            pairs.append((one, with_parts(one, streak=(one.streak[0] + 1, 2, MONEY - shift))))
            pairs.append((one, with_parts(one, included=one.included - 1)))
        pairs.append((one, Plan.read(str(one))))
    for at in range(20):
        one = Plan(
            (chooser.randint(0, MONEY), chooser.randint(0, MONEY)),
            tuple((start, chooser.choice((1, 2, MONEY))) for start in (0, 3, 7, 12)),
            included=chooser.randint(1, 12), carry=3, least=chooser.randint(0, 9), most=MONEY,
            streak=(chooser.randint(1, 16), 2, chooser.randint(0, MONEY)),
        )
        pairs.append((one, with_parts(one, fees=one.fees[::-1], included=chooser.randint(0, 12), carry=2)))
    return pairs


class SpeedTest(unittest.TestCase):
    def soon(self, call, *given, **named):
        begun = time.process_time()
        result = call(*given, **named)
        self.assertLess(time.process_time() - begun, SECONDS, (call.__name__, given, named))
        return result

    def test_single_bills(self):
        for plan in WIDEST:
            for state in ((0, 0, 0), (3, 2, 1)):
                for call in (bill, after, lines):
                    self.soon(call, plan, state, GREAT_USE)
                self.soon(tail, plan, state)

    def test_histories(self):
        runs = tuple(((5, 0, GREAT_USE, 17, at, 9), 10 ** 18 - at) for at in range(8))
        for plan in WIDEST:
            self.soon(lambda: list(bills(plan, (GREAT_USE,) * 24)))
            self.soon(total, plan, runs, state=(3, 2, 1))
            self.soon(state_after, plan, runs, state=(3, 2, 1))
            self.soon(long_run, plan, (5, 0, GREAT_USE) * 8)

    def test_states(self):
        for one, other in great_pairs():
            self.soon(states, one)
            self.soon(classes, other)
            self.soon(alike, one, other)
            self.soon(apart, one, other, state=(3, 2, 1), other_state=(0, 1, 0))

    def test_leads(self):
        for one, other in great_pairs():
            for most_use in (None, 3, 20, MONEY, GREAT_USE):
                self.soon(lead, one, other, most_use=most_use)
                self.soon(never_ahead, other, one, MONEY, most_use=most_use)

    def test_four_plans(self):
        pairs = great_pairs()
        for at in range(0, len(pairs) - 1, 3):
            self.soon(needless, *pairs[at], *pairs[at + 1])

    def test_thrift(self):
        for pair in great_pairs():
            for plan in pair:
                self.soon(is_thrifty, plan)
                for most_use in (None, 3, 20, MONEY, GREAT_USE):
                    self.soon(thrift, plan, most_use=most_use)

    def test_backwards(self):
        for plan in WIDEST:
            for state in ((0, 0, 0), (3, 2, 1)):
                for amount in (MONEY, GREAT_USE):
                    self.soon(uses_for, plan, state, amount)
                    self.soon(greatest_use, plan, state, GREAT_USE)

    def test_choosing(self):
        for uses in ((GREAT_USE,) * 24, (0, 5, 12, 30, MONEY, GREAT_USE) * 4):
            for change in (0, 1, MONEY, GREAT_USE):
                self.soon(cheapest, uses, *WIDEST, change=change)
                self.soon(cheapest, uses, *WIDEST[:1] * 4, change=change)
                self.soon(row_cost, uses, (0, 1, 2, 3) * 6, *WIDEST, change=change)

    def test_certificates(self):
        for one, other in great_pairs():
            told = [self.soon(certify_alike, one, other)]
            told.append(self.soon(certify_cheapest, (0, 5, 12, 30, MONEY, GREAT_USE) * 4, one, other, one, other))
            for most_use in (None, 3, 20, MONEY, GREAT_USE):
                told.extend(self.soon(certify_lead, one, other, most_use=most_use))
                told.extend(self.soon(certify_thrift, one, most_use=most_use))
            for claim, certificate in told:
                self.assertTrue(self.soon(accepts, claim, certificate))

    def test_tables_with_all_pairs_of_states(self):
        for plan in WIDEST:
            form, rest = plan.form, (None, 10 ** 30)
            # The states of pairs have the same TURN; each number is as great as what may be gained by any step.
            pairs = [(one, other) for one in all_states(plan) for other in all_states(plan) if one[2] == other[2]]
            self.assertEqual(len(pairs), 288)
            for word, parts in (("never", (form, form)), ("thrifty", (form,))):
                self.soon(accepts, (word, *parts, *rest), tuple((*pair, 0) for pair in pairs))
            self.soon(accepts, ("alike", form, form), tuple(pairs))

    def test_accounts(self):
        for plan in WIDEST:
            account = NotedLimitedAccount(plan, GREAT_USE * MONEY)
            for period in range(24):
                self.soon(account.enter, period, GREAT_USE // 3 + period)
                self.soon(account.send)
            self.soon(account.do_all, tuple(("enter", period, -period) for period in range(24)))
            self.soon(account.tried, tuple(("enter", period, 1) for period in range(24)), lambda shown: shown.notes())
            self.soon(account.rebilled, 0, 5)
            while account.log:
                self.soon(account.undo)

    def test_consoles(self):
        for one, other in great_pairs()[:20]:
            console = Console(one, other)
            for line in ("enter 0 999999999999999", "send", "lead one", "lead other", "change other", "undo"):
                self.soon(console.say, line)


if __name__ == "__main__":
    unittest.main()
