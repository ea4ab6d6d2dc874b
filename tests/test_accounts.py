"""Accounts, beside a slow one that reckons all anew (point 16)."""

import inspect
import random
import unittest

from everybill.accounts import Account, LimitedAccount, NotedAccount, NotedLimitedAccount
from everybill.errors import FormError, InvalidAmount, InvalidDeed, InvalidPeriod, InvalidUnits, NegativeUse, NotAPlan
from everybill.errors import NothingToSend, NothingToUndo, OverLimit, StateError
from everybill.plans import Plan
from tests.makers import MONEY, WIDEST, great_plans, small_plans
from tests.samples import FLEX, FULL, PLAIN, SAMPLES, is_integer, raised
from tests.slow import is_plain
from tests.slow_account import SlowAccount

NAMES = ("uses", "bills", "plans", "invoices", "charged", "owed", "log")
CARRYING = Plan((60,), ((0, 25), (4, 10)), included=3, carry=2)
ALL_SENT = (("send",),) * 24


def seen(account):
    """Return all that the account shows."""
    found = {name: getattr(account, name) for name in NAMES}
    if isinstance(account, LimitedAccount):
        found["limit"] = account.limit
    if isinstance(account, NotedAccount):
        found["notes"] = account.notes()
    return found


def kinds(plan, limit=10 ** 41):
    """Return an account of each kind with this plan; the limit bars nothing if none is passed."""
    return [Account(plan), LimitedAccount(plan, limit), NotedAccount(plan), NotedLimitedAccount(plan, limit)]


class Stop(Exception):
    """An error of a caller."""


class AccountCase(unittest.TestCase):
    def refused(self, error, account, call, *given, **told):
        """Check that the call raises this error with these attributes and changes nothing."""
        before = seen(account)
        self.assertEqual(vars(raised(error, call, *given)), told)
        self.assertEqual(seen(account), before)


class ExamplesTest(AccountCase):
    def test_the_examples_of_the_interface(self):
        account = Account(CARRYING)
        first = account.do_all((("enter", 0, 1), ("send",), ("enter", 1, 7), ("send",)))
        self.assertEqual(
            [
                first, account.rebilled(0, 4), account.enter(0, 4), account.owed, account.send(), account.charged,
                account.owed,
            ],
            [
                (None, (0, 60, ()), None, (1, 110, ())), ((0, 60, 110), (1, 110, 160)), None, 100,
                (2, 60, ((0, 50), (1, 50))), 330, 0,
            ],
        )
        account = LimitedAccount(Plan((60,), ((0, 25),)), 100)
        self.refused(OverLimit, account, account.do_all, (("enter", 3, 1), ("enter", 5, 2)), period=5)


class DrawnTest(AccountCase):
    """Drawn rows of deeds, each of which is compared with what the slow account makes of it."""

    def setUp(self):
        self.chooser = random.Random(81)
        self.plans = [*small_plans(82, 20), *great_plans(83, 5), FLEX, FULL, PLAIN, CARRYING]
        self.told = {}

    def drawn_deed(self, account):
        pick = self.chooser.random()
        if pick < 0.5:
            period = self.chooser.choice((self.chooser.randint(0, 23), len(account.invoices) % 24))
            units = self.chooser.choice((0, 1, 2, 5, 9, 14, 30, MONEY, -1, -2, -5, 10 ** 40 - 1, 1 - 10 ** 40))
            if self.chooser.random() < 0.05:
                period, units = self.chooser.choice(((24, 1), (-1, 5), (True, 1), (0, None), (3, True), ("0", -1)))
            return ("enter", period, units)
        if pick < 0.8:
            return ("send",)
        return ("change", self.chooser.choice((*self.plans, *self.plans[:9], None)))

    def compare(self, found, wanted):
        """Compare an outcome, and count which ones were seen."""
        self.assertEqual(found, wanted)
        self.told[wanted[0]] = self.told.get(wanted[0], 0) + 1

    def outcome(self, call, *given):
        """Return what the call returns as (None, RESULT), or its error as its class and its attribute."""
        try:
            return None, call(*given)
        except (FormError, StateError) as error:
            return type(error), (list(vars(error).values()) or [None])[0]

    def step(self, account, slow):
        pick = self.chooser.random()
        deeds = tuple(self.drawn_deed(account) for deed in range(self.chooser.randint(0, 5)))
        if pick < 0.45:
            deed = self.drawn_deed(account)
            call = {"enter": account.enter, "send": account.send, "change": account.change_plan}[deed[0]]
            found = self.outcome(account.do, deed) if pick < 0.2 else self.outcome(call, *deed[1:])
            self.compare(found, slow.do(deed))
        elif pick < 0.6:
            self.compare(self.outcome(account.do_all, deeds), slow.do_all(deeds))
        elif pick < 0.75:
            self.try_out(account, slow, deeds)
        elif pick < 0.9 and slow.deeds:
            self.compare(self.outcome(account.undo), slow.undo())
        elif pick < 0.95:
            period, units = self.chooser.randint(-1, 24), self.chooser.choice((-3, 0, 4, 40, MONEY, None))
            self.compare(self.outcome(account.rebilled, period, units), slow.rebilled(period, units))
        elif isinstance(account, LimitedAccount):
            limit = self.chooser.choice((-5, 0, 9, 60, 200, MONEY, 10 ** 41))
            self.assertIsNone(account.set_limit(limit))
            slow.limit = limit

    def try_out(self, account, slow, deeds):
        before = seen(account)
        kept = list(slow.deeds), list(slow.noted)
        wanted = slow.do_all(deeds)
        inside = slow.after(slow.deeds)[0], tuple(slow.noted)
        slow.deeds, slow.noted = kept
        looks = []

        def look(shown):
            self.assertIs(shown, account)
            looks.append(seen(account))
            if len(deeds) == 3:
                raise Stop
            return "seen"

        if len(deeds) == 3 and wanted[0] is None:
            self.assertRaises(Stop, account.tried, deeds, look)
        else:
            self.compare(self.outcome(account.tried, deeds, look), (None, "seen") if wanted[0] is None else wanted)
        self.assertEqual(seen(account), before)
        if wanted[0] is None:
            self.assertEqual({name: looks[0][name] for name in NAMES}, inside[0])
            self.assertEqual(looks[0].get("notes", inside[1]), inside[1])

    def test_beside_the_slow_account(self):
        for at in range(160):
            plan, limit = self.chooser.choice(self.plans), self.chooser.choice((10, 60, 150, MONEY))
            account = kinds(plan, limit)[at % 4]
            slow = SlowAccount(plan, limit if at % 2 else None)
            if at % 8 > 5:
                self.compare(self.outcome(account.do_all, ALL_SENT[:22]), slow.do_all(ALL_SENT[:22]))
            for step in range(self.chooser.choice((10, 20, 45))):
                self.step(account, slow)
                found = seen(account)
                self.assertEqual({name: found[name] for name in NAMES}, slow.after(slow.deeds)[0])
                self.assertEqual(found.get("notes", tuple(slow.noted)), tuple(slow.noted))
                self.assertEqual(found.get("limit", slow.limit), slow.limit)
        for error in (None, InvalidPeriod, InvalidUnits, NegativeUse, NotAPlan, NothingToSend, OverLimit):
            self.assertGreater(self.told.get(error, 0), 3, error)

    def test_behind_each_invoice_the_bills_of_all_periods_sent_are_charged(self):
        for at in range(60):
            account = kinds(self.chooser.choice(self.plans))[at % 4]
            for step in range(60):
                deed = self.drawn_deed(account)
                self.outcome(account.do, deed)
                if step % 7 == 0 and account.log:
                    account.undo()
                sent = len(account.invoices)
                charged = sum(bill + sum(amount for earlier, amount in rows) for at, bill, rows in account.invoices)
                self.assertEqual(account.charged, charged)
                self.assertEqual(account.owed, sum(account.bills[:sent]) - charged)
                if account.log and account.log[-1] == ("send",):
                    self.assertEqual(account.charged, sum(account.bills[:sent]))
                self.assertEqual([invoice[0] for invoice in account.invoices], list(range(sent)))


class StartTest(AccountCase):
    def test_a_new_account(self):
        for plan in (FLEX, FULL, *WIDEST):
            for account in kinds(plan):
                wanted = SlowAccount(plan).after([])[0]
                self.assertEqual({name: getattr(account, name) for name in NAMES}, wanted)
                self.assertEqual([len(account.uses), len(account.bills), account.invoices], [24, 24, ()])
                self.assertIs(account.plans[0][1], plan)
                self.assertTrue(is_plain((account.uses, account.bills, account.invoices, account.log)))
                self.assertTrue(is_integer(account.charged) and is_integer(account.owed))

    def test_classes(self):
        account, limited, noted, both = kinds(FLEX)
        for held in (account, limited, noted, both):
            self.assertIsInstance(held, Account)
        self.assertIsInstance(both, LimitedAccount)
        self.assertIsInstance(both, NotedAccount)
        self.assertNotIsInstance(limited, NotedAccount)
        self.assertNotIsInstance(noted, LimitedAccount)
        self.assertEqual([limited.limit, both.limit], [10 ** 41] * 2)

    def test_accounts_do_not_disturb_each_other(self):
        accounts = [*kinds(CARRYING), *kinds(CARRYING)]
        for at, account in enumerate(accounts):
            before = [seen(other) for other in accounts[at + 1:]]
            account.do_all((("enter", at, at + 9), ("send",), ("change", FULL)))
            account.undo()
            self.assertEqual([seen(other) for other in accounts[at + 1:]], before)
        self.assertEqual([account.uses[at] for at, account in enumerate(accounts)], list(range(9, 17)))


class EnterTest(AccountCase):
    def test_errors_in_their_order(self):
        for account in kinds(FLEX):
            account.enter(3, 5)
            for value in SAMPLES:
                if not is_integer(value) or not 0 <= value <= 23:
                    for call in (account.enter, account.rebilled):
                        self.refused(InvalidPeriod, account, call, value, 1, value=value)
                        self.refused(InvalidPeriod, account, call, value, None, value=value)
                    self.refused(InvalidPeriod, account, account.do, ("enter", value, None), value=value)
                if not is_integer(value):
                    for call in (account.enter, account.rebilled):
                        self.refused(InvalidUnits, account, call, 3, value, value=value)
                    self.refused(InvalidUnits, account, account.do, ("enter", 3, value), value=value)
            for call in (account.enter, account.rebilled):
                self.refused(NegativeUse, account, call, 3, -6, use=-1)
                self.refused(NegativeUse, account, call, 0, 1 - 10 ** 40, use=1 - 10 ** 40)
            for period in (24, -1, 10 ** 40 - 1):
                self.refused(InvalidPeriod, account, account.enter, period, -100, value=period)

    def test_units_of_any_size_and_sign(self):
        account = Account(PLAIN)
        far = 10 ** 40 - 1
        for units, use in ((far, far), (far, 2 * far), (-far, far), (0, far), (-far, 0), (0, 0)):
            self.assertIsNone(account.enter(23, units))
            self.assertEqual(account.uses[23], use)
            self.assertEqual(account.bills[23], 120 + 10 * use)
        self.assertEqual(len(account.log), 6)

    def test_by_name(self):
        account = NotedLimitedAccount(plan=PLAIN, limit=300)
        account.enter(units=4, period=2)
        self.assertEqual(account.rebilled(units=1, period=2), ((2, 160, 170),))
        account.change_plan(plan=FULL)
        account.do(deed=("send",))
        account.do_all(deeds=(("send",),))
        self.assertEqual(account.tried(deeds=(), look=lambda shown: len(shown.log)), 4)
        account.set_limit(limit=5)
        self.assertEqual(account.limit, 5)

    def test_a_late_use_changes_later_bills(self):
        account = Account(CARRYING)
        account.do_all((("send",), ("send",), ("send",)))
        self.assertEqual(account.bills[:4], (60, 60, 60, 60))
        account.enter(1, 8)
        self.assertEqual([account.bills[1], account.owed, account.charged], [135, 75, 180])
        self.assertEqual(account.send(), (3, 60, ((1, 75),)))
        account.enter(1, -8)
        self.assertEqual([account.owed, account.charged], [-75, 315])
        self.assertEqual(account.send(), (4, 60, ((1, -75),)))
        self.assertEqual([account.owed, account.charged], [0, 300])


class SendTest(AccountCase):
    def test_all_periods_and_one_more(self):
        for account in kinds(CARRYING):
            account.enter(5, 9)
            self.assertEqual([account.send() for at in range(24)], list(account.invoices))
            self.assertEqual([invoice[0] for invoice in account.invoices], list(range(24)))
            self.refused(NothingToSend, account, account.send)
            self.refused(NothingToSend, account, account.do, ("send",))
            self.refused(NothingToSend, account, account.change_plan, FLEX)
            self.refused(NothingToSend, account, account.do_all, (("enter", 0, 1), ("change", PLAIN)))
            self.refused(NotAPlan, account, account.change_plan, 5, value=5)
            account.undo()
            self.assertEqual(account.send()[0], 23)

    def test_enters_behind_the_last_invoice(self):
        account = Account(CARRYING)
        account.do_all(ALL_SENT)
        self.assertIsNone(account.enter(0, 10))
        self.assertEqual([account.owed, account.charged], [130, 24 * 60])
        self.assertEqual(account.rebilled(23, 30), ((23, 60, 370),))
        account.enter(23, 30)
        self.assertEqual(account.owed, 440)
        account.undo()
        self.assertEqual(account.owed, 130)

    def test_a_correction_of_a_correction(self):
        account = Account(PLAIN)
        account.send()
        account.enter(0, 5)
        self.assertEqual(account.send(), (1, 120, ((0, 50),)))
        self.assertEqual(account.send(), (2, 120, ()))
        account.enter(0, 2)
        account.enter(1, 1)
        self.assertEqual(account.send(), (3, 120, ((0, 20), (1, 10))))
        account.enter(0, -7)
        self.assertEqual(account.send(), (4, 120, ((0, -70),)))
        self.assertEqual([account.charged, account.owed], [610, 0])

    def test_behind_an_undo_of_an_invoice_its_corrections_come_again(self):
        account = Account(PLAIN)
        account.do_all((("send",), ("enter", 0, 5)))
        self.assertEqual(account.send(), (1, 120, ((0, 50),)))
        account.undo()
        self.assertEqual([account.owed, account.charged, len(account.invoices)], [50, 120, 1])
        account.enter(0, 1)
        self.assertEqual(account.send(), (1, 120, ((0, 60),)))

    def test_the_bill_of_a_use_that_comes_back_needs_no_correction(self):
        account = Account(CARRYING)
        account.do_all((("enter", 0, 4), ("send",), ("enter", 0, 3), ("enter", 0, -3)))
        self.assertEqual(account.send(), (1, 60, ()))


class ChangeTest(AccountCase):
    def test_the_new_plan_begins_at_its_start(self):
        account = Account(CARRYING)
        account.do_all((("enter", 1, 5), ("send",)))
        self.assertEqual(account.bills[:3], (60, 60, 60))
        self.assertIsNone(account.change_plan(CARRYING))
        # Two units were carried on to period 1 before; now the plan begins there.
        self.assertEqual(account.bills[:3], (60, 110, 60))
        self.assertEqual(account.plans, ((0, CARRYING), (1, CARRYING)))

    def test_a_plan_that_began_with_that_period_is_replaced(self):
        account = Account(FLEX)
        for plan in (PLAIN, FULL, FULL):
            account.change_plan(plan)
            self.assertEqual(account.plans, ((0, plan),))
        account.send()
        account.change_plan(PLAIN)
        account.change_plan(FLEX)
        self.assertEqual(account.plans, ((0, FULL), (1, FLEX)))
        for plan in (PLAIN, FULL):
            account.undo()
        self.assertEqual(account.plans, ((0, FULL),))

    def test_a_change_behind_the_23rd_invoice(self):
        account = Account(PLAIN)
        account.do_all((("send",),) * 23)
        account.change_plan(FLEX)
        self.assertEqual([account.plans, account.bills[23], account.bills[22]], [((0, PLAIN), (23, FLEX)), 60, 120])

    def test_corrections_behind_a_change(self):
        account = Account(CARRYING)
        account.do_all((("send",), ("change", PLAIN), ("send",), ("enter", 0, 5), ("enter", 1, 2)))
        self.assertEqual(account.send(), (2, 120, ((0, 50), (1, 20))))

    def test_errors(self):
        for account in kinds(FLEX):
            for value in SAMPLES:
                if type(value) is not Plan:
                    self.refused(NotAPlan, account, account.change_plan, value, value=value)
                    self.refused(NotAPlan, account, account.do, ("change", value), value=value)


class DoTest(AccountCase):
    def test_no_deeds(self):
        wrong = (
            (), ("enter",), ("enter", 1), ("enter", 1, 2, 3), ("send", 1), ("change",), ("change", FLEX, 1), ("undo",),
            ("change_plan", FLEX), ("Send",), (None,), (True,), (("send",),), ([], 1, 2), ({},), (FLEX,), (FLEX, FLEX),
            ["send"], "send", ("send ",), ("s", "e", "n", "d"), ("rebilled", 1, 2), ("set_limit", 5), {"send": 1},
        )
        for account in kinds(FLEX):
            for value in (*wrong, *SAMPLES):
                self.refused(InvalidDeed, account, account.do, value, index=None)
                self.refused(InvalidDeed, account, account.do_all, (value,), index=0)
                # The forms of all deeds are looked at ahead of what they do.
                bad = ("enter", 99, None)
                self.refused(InvalidDeed, account, account.do_all, (bad, ("send",), value, value), index=2)
                self.refused(InvalidDeed, account, account.tried, (bad, value), lambda shown: 1, index=1)

    def test_no_deeds_at_all(self):
        for account in kinds(FLEX):
            for value in (None, 5, True, "send", ["send"], [], [("send",)], {}, FLEX, (("send",),) * 25, (None,) * 25):
                self.refused(InvalidDeed, account, account.do_all, value, index=None)
                self.refused(InvalidDeed, account, account.tried, value, lambda shown: 1, index=None)
            self.assertEqual([account.do_all(()), account.tried((), lambda shown: 1), account.log], [(), 1, ()])

    def test_results(self):
        account = Account(CARRYING)
        self.assertEqual(account.do(("send",)), (0, 60, ()))
        self.assertIsNone(account.do(("enter", 0, 5)))
        self.assertIsNone(account.do(("change", PLAIN)))
        self.assertEqual(account.do_all((("send",), ("enter", 0, 0), ("send",))), ((1, 120, ((0, 50),)), None, (2, 120, ())))
        self.assertEqual(account.log[:3], (("send",), ("enter", 0, 5), ("change", PLAIN)))

    def test_all_or_none(self):
        for account in kinds(CARRYING):
            account.do_all((("enter", 0, 5), ("send",)))
            good = (("enter", 1, 9), ("send",), ("change", PLAIN), ("send",), ("enter", 0, 3))
            for bad, error, told in (
                (("enter", 24, 1), InvalidPeriod, {"value": 24}), (("enter", 0, "1"), InvalidUnits, {"value": "1"}),
                (("enter", 1, -10), NegativeUse, {"use": -1}), (("change", None), NotAPlan, {"value": None}),
            ):
                self.refused(error, account, account.do_all, (*good, bad, ("enter", 99, 99)), **told)
                self.refused(error, account, account.tried, (*good, bad), self.fail, **told)
            self.refused(NothingToSend, account, account.do_all, ALL_SENT)
            self.assertEqual(len(account.do_all(good)), 5)

    def test_24_deeds(self):
        account = Account(PLAIN)
        self.assertEqual(len(account.do_all(ALL_SENT)), 24)
        self.assertEqual(len(account.log), 24)


class TriedTest(AccountCase):
    def test_look_sees_the_deeds_done(self):
        for account in kinds(CARRYING):
            account.enter(0, 5)
            before = seen(account)
            deeds = (("send",), ("enter", 0, 1), ("send",), ("change", PLAIN))
            shown = account.tried(deeds, seen)
            self.assertEqual(seen(account), before)
            account.do_all(deeds)
            self.assertEqual(seen(account), shown)

    def test_what_look_returns_and_raises_goes_on(self):
        for account in kinds(FLEX):
            before = seen(account)
            for value in (None, False, (), [1], account):
                self.assertIs(account.tried((("send",),), lambda shown: value), value)

            def stop(shown):
                raise Stop

            def leave(shown):
                raise KeyboardInterrupt

            def refuse(shown):
                raise OverLimit(3)

            self.assertRaises(Stop, account.tried, (("send",), ("enter", 0, 1)), stop)
            self.assertRaises(KeyboardInterrupt, account.tried, (("change", PLAIN),), leave)
            self.assertRaises(OverLimit, account.tried, (("send",),), refuse)
            self.assertRaises(NothingToSend, account.tried, ALL_SENT, lambda shown: shown.send())
            self.assertEqual(seen(account), before)
            raised(NothingToUndo, account.undo)

    def test_it_can_be_undone_and_gone_on_behind_it(self):
        account = NotedAccount(PLAIN)
        account.enter(0, 1)
        self.assertEqual(account.tried((("enter", 0, 1), ("send",)), lambda shown: shown.charged), 140)
        account.undo()
        self.assertEqual([account.log, account.uses[0]], [(), 0])


class UndoTest(AccountCase):
    def test_each_deed_is_taken_back(self):
        for account in kinds(CARRYING):
            views = []
            deeds = (("enter", 0, 5), ("send",), ("change", FULL), ("enter", 0, -2), ("send",), ("change", FLEX), ("send",))
            for deed in deeds:
                views.append({name: getattr(account, name) for name in NAMES})
                account.do(deed)
            for view in views[::-1]:
                self.assertIsNone(account.undo())
                self.assertEqual({name: getattr(account, name) for name in NAMES}, view)
            self.refused(NothingToUndo, account, account.undo)

    def test_deeds_of_do_all_are_undone_one_by_one(self):
        account = Account(PLAIN)
        account.do_all((("enter", 0, 1), ("enter", 0, 2), ("send",)))
        account.undo()
        self.assertEqual([account.uses[0], account.log], [3, (("enter", 0, 1), ("enter", 0, 2))])
        account.undo()
        self.assertEqual([account.uses[0], account.log], [1, (("enter", 0, 1),)])


class RebilledTest(AccountCase):
    def test_beside_the_bills_before_and_after(self):
        chooser = random.Random(84)
        plans = [*small_plans(85, 30), CARRYING, FLEX, FULL]
        sizes = set()
        for at in range(200):
            account = kinds(chooser.choice(plans), limit=0)[at % 4 // 2 * 2]
            for deed in range(6):
                account.do(chooser.choice((("send",), ("change", chooser.choice(plans)), ("enter", chooser.randint(0, 23), 9))))
            before, shown = account.bills, seen(account)
            period, units = chooser.randint(0, 23), chooser.choice((0, 1, 4, 12, MONEY))
            found = account.rebilled(period, units)
            self.assertEqual(seen(account), shown)
            account.enter(period, units)
            pairs = list(zip(before, account.bills))
            self.assertEqual(found, tuple((at, *pair) for at, pair in enumerate(pairs) if pair[0] != pair[1]))
            self.assertTrue(is_plain(found))
            sizes.add(len(found))
        self.assertLessEqual({0, 1, 2}, sizes)

    def test_a_limit_bars_nothing(self):
        for account in kinds(PLAIN, limit=-5)[1::2]:
            self.assertEqual(account.rebilled(0, 1), ((0, 120, 130),))
            self.refused(OverLimit, account, account.enter, 0, 1, period=0)


class LimitTest(AccountCase):
    def limited(self, plan, limit):
        return [LimitedAccount(plan, limit), NotedLimitedAccount(plan, limit)]

    def test_the_limit_is_an_integer(self):
        for value in SAMPLES:
            for made in (LimitedAccount, NotedLimitedAccount):
                if is_integer(value):
                    self.assertEqual(made(FLEX, value).limit, value)
                    account = made(FLEX, 7)
                    self.assertIsNone(account.set_limit(value))
                    self.assertEqual(account.limit, value)
                else:
                    self.assertIs(raised(InvalidAmount, made, FLEX, value).value, value)
                    account = made(FLEX, 7)
                    self.refused(InvalidAmount, account, account.set_limit, value, value=value)
                raised(NotAPlan, made, None, value)

    def test_what_just_meets_the_limit_and_one_less(self):
        for account in self.limited(PLAIN, 150):
            account.enter(0, 3)
            self.refused(OverLimit, account, account.enter, 0, 1, period=0)
            account.set_limit(159)
            self.refused(OverLimit, account, account.enter, 0, 1, period=0)
            account.set_limit(160)
            account.enter(0, 1)
            self.assertEqual(account.bills[0], 160)

    def test_bills_that_are_already_higher_stay(self):
        for account in self.limited(PLAIN, 10):
            self.assertEqual(account.bills, (120,) * 24)
            self.assertEqual(account.send(), (0, 120, ()))
            account.enter(3, 0)
            account.change_plan(PLAIN)
            account.set_limit(1000)
            account.enter(2, 9)
            account.set_limit(-1)
            self.assertEqual(account.bills[2], 210)
            # To less than before, but still to more than the limit.
            self.refused(OverLimit, account, account.enter, 2, -1, period=2)
            self.refused(OverLimit, account, account.undo, period=2)
            account.set_limit(120)
            account.undo()
            self.assertEqual(account.bills[2], 120)

    def test_the_first_such_period(self):
        dear = Plan((60, 900), ((0, 25),))
        for account in self.limited(CARRYING, 100):
            account.send()
            self.refused(OverLimit, account, account.change_plan, dear, period=2)
            self.refused(OverLimit, account, account.do, ("change", dear), period=2)
            account.change_plan(Plan((60, 60), ((0, 25),)))
            self.assertEqual(account.plans[1][0], 1)

    def test_a_bill_of_a_later_period(self):
        for account in self.limited(CARRYING, 110):
            account.do_all((("enter", 0, 1), ("enter", 1, 7)))
            self.assertEqual(account.bills[:2], (60, 110))
            self.assertEqual(account.rebilled(0, 2), ((1, 110, 160),))
            self.refused(OverLimit, account, account.enter, 0, 2, period=1)

    def test_behind_all_other_errors(self):
        for account in self.limited(PLAIN, -1):
            self.refused(InvalidPeriod, account, account.enter, 24, 1, value=24)
            self.refused(InvalidUnits, account, account.enter, 0, None, value=None)
            self.refused(NegativeUse, account, account.enter, 0, -1, use=-1)
            self.refused(NotAPlan, account, account.change_plan, 1, value=1)
            self.refused(NothingToUndo, account, account.undo)
            account.do_all(ALL_SENT)
            self.refused(NothingToSend, account, account.change_plan, FLEX)
            self.refused(OverLimit, account, account.enter, 5, 1, period=5)

    def test_an_undo_may_be_barred(self):
        cheap = Plan((10,), ((0, 1),))
        for account in self.limited(PLAIN, 200):
            account.do_all((("send",), ("enter", 3, 2), ("change", cheap)))
            account.set_limit(100)
            self.refused(OverLimit, account, account.undo, period=1)
            account.set_limit(139)
            self.refused(OverLimit, account, account.undo, period=3)
            account.set_limit(140)
            account.undo()
            self.assertEqual(account.bills[:4], (120, 120, 120, 140))

    def test_in_do_all_and_tried_in_the_turn_of_the_deed(self):
        for account in self.limited(PLAIN, 150):
            for call in (account.do_all, lambda deeds: account.tried(deeds, self.fail)):
                self.refused(OverLimit, account, call, (("enter", 0, 4), ("enter", 0, -1), ("enter", 99, 0)), period=0)
                self.refused(InvalidPeriod, account, call, (("enter", 0, 3), ("enter", 99, 0), ("enter", 0, 9)), value=99)
            account.do_all((("enter", 0, 3), ("enter", 0, -1), ("enter", 0, 1)))

    def test_the_limit_is_no_deed(self):
        for account in self.limited(PLAIN, 500):
            account.enter(0, 1)
            account.set_limit(400)
            account.undo()
            self.assertEqual([account.limit, account.log], [400, ()])
            raised(NothingToUndo, account.undo)
        self.assertEqual(account.notes(), ((("enter", 0, 1), None), (("undo",), None)))


class NotesTest(AccountCase):
    def noted(self, plan):
        return [NotedAccount(plan), NotedLimitedAccount(plan, 10 ** 41)]

    def test_all_deeds_and_each_undo(self):
        for account in self.noted(PLAIN):
            self.assertEqual(account.notes(), ())
            account.enter(0, 1)
            account.do(("send",))
            account.undo()
            account.do_all((("change", FLEX), ("send",)))
            account.undo()
            account.undo()
            wanted = (
                (("enter", 0, 1), None), (("send",), (0, 130, ())), (("undo",), None), (("change", FLEX), None),
                (("send",), (0, 60, ())), (("undo",), None), (("undo",), None),
            )
            self.assertEqual(account.notes(), wanted)
            self.assertEqual(account.log, (("enter", 0, 1),))

    def test_calls_that_raised_an_error_leave_no_notes(self):
        for account in self.noted(PLAIN):
            account.enter(5, 5)
            for error, call, given in (
                (InvalidPeriod, account.enter, (24, 1)), (NegativeUse, account.enter, (0, -1)),
                (NotAPlan, account.change_plan, (None,)), (InvalidDeed, account.do, (("undo",),)),
                (NegativeUse, account.do_all, ((("enter", 0, 1), ("send",), ("enter", 0, -2)),)),
                (NegativeUse, account.tried, ((("send",), ("enter", 0, -2)), self.fail)),
                (InvalidPeriod, account.rebilled, (24, 1)),
            ):
                raised(error, call, *given)
                self.assertEqual(account.notes(), ((("enter", 5, 5), None),))
        limited = NotedLimitedAccount(PLAIN, 120)
        raised(OverLimit, limited.enter, 0, 1)
        limited.set_limit(130)
        limited.enter(0, 1)
        limited.enter(0, -1)
        limited.set_limit(120)
        raised(OverLimit, limited.undo)
        self.assertEqual(limited.notes(), ((("enter", 0, 1), None), (("enter", 0, -1), None)))

    def test_deeds_of_tried_are_noted_within_look_only(self):
        for account in self.noted(PLAIN):
            account.enter(0, 1)
            shown = account.tried((("send",), ("enter", 0, 1)), lambda held: held.notes())
            self.assertEqual(shown, ((("enter", 0, 1), None), (("send",), (0, 130, ())), (("enter", 0, 1), None)))
            self.assertEqual(account.notes(), ((("enter", 0, 1), None),))

    def test_rebilled_is_not_noted(self):
        for account in self.noted(PLAIN):
            account.rebilled(0, 1)
            self.assertEqual(account.notes(), ())

    def test_notes_that_were_returned_stay_as_they_are(self):
        account = NotedAccount(PLAIN)
        before = account.notes()
        account.send()
        self.assertEqual([before, len(account.notes())], [(), 1])


class MadeTest(unittest.TestCase):
    def test_names_of_the_parameters(self):
        methods = {
            "enter": "period units", "send": "", "change_plan": "plan", "do": "deed", "do_all": "deeds",
            "tried": "deeds look", "undo": "", "rebilled": "period units",
        }
        limits, notes = {"set_limit": "limit"}, {"notes": ""}
        for made, names, wanted in (
            (Account, "plan", methods), (NotedAccount, "plan", {**methods, **notes}),
            (LimitedAccount, "plan limit", {**methods, **limits}),
            (NotedLimitedAccount, "plan limit", {**methods, **limits, **notes}),
        ):
            self.assertEqual(list(inspect.signature(made).parameters), names.split())
            for name, parts in wanted.items():
                found = inspect.signature(getattr(made, name)).parameters
                self.assertEqual(list(found), ["self", *parts.split()])
                self.assertEqual({part.kind for part in found.values()}, {inspect.Parameter.POSITIONAL_OR_KEYWORD})

    def test_the_first_plan(self):
        for value in SAMPLES:
            if type(value) is not Plan:
                self.assertIs(raised(NotAPlan, Account, value).value, value)
                self.assertIs(raised(NotAPlan, NotedAccount, value).value, value)
                self.assertIs(raised(NotAPlan, LimitedAccount, value, None).value, value)
                self.assertIs(raised(NotAPlan, NotedLimitedAccount, value, None).value, value)


if __name__ == "__main__":
    unittest.main()
