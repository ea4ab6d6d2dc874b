"""The console: each of its lines, and lines near to one."""

import random
import unittest

from everybill.accounts import NotedAccount
from everybill.console import Console
from everybill.errors import FormError, InvalidLine, InvalidPeriod, NegativeUse, NotAPlan, NothingToSend, NothingToUndo
from everybill.errors import StateError
from everybill.leads import lead
from everybill.plans import Plan
from tests.makers import pairs_of, small_plan
from tests.samples import FLEX, FULL, PLAIN, SAMPLES, raised
from tests.slow_account import SlowAccount

CARRYING = Plan((60,), ((0, 25), (4, 10)), included=3, carry=2)
OTHER = Plan((100,), ((0, 20),), included=5)
LINES = (
    "enter 3 5", "enter 0 2", "send", "change one", "change other", "undo", "use 3", "bill 3", "owed", "charged",
    "lead one", "lead other", "text one", "text other",
)


def seen(console):
    account = console.account
    shown = (account.uses, account.bills, account.plans, account.invoices, account.charged, account.owed, account.log)
    return (*shown, account.notes())


class ConsoleCase(unittest.TestCase):
    def refused(self, error, console, line, **told):
        """Check that this line raises this error with these attributes and changes nothing."""
        before = seen(console)
        self.assertEqual(vars(raised(error, console.say, line)), told)
        self.assertEqual(seen(console), before)


class ExamplesTest(unittest.TestCase):
    def test_the_examples_of_the_interface(self):
        console = Console(CARRYING, OTHER)
        first, second = console.say("enter 0 1"), console.say("enter 1 7")
        self.assertEqual(
            [
                first, second, console.say("send"), console.say("enter 0 4"), console.say("send"), console.say("owed"),
                console.say("lead one"),
            ],
            ["-", "1 60 110", "0 60", "0 60 110, 1 110 160", "1 160, 0 50", "0", "loop"],
        )


class LinesTest(ConsoleCase):
    def test_enter(self):
        console = Console(PLAIN, OTHER)
        for line, wanted in (
            ("enter 0 5", "0 120 170"), ("enter 0 0", "-"), ("enter 23 1", "23 120 130"), ("enter 0 -5", "0 170 120"),
            ("enter 7 999999999999999", "7 120 10000000000000110"), ("enter 7 -999999999999999", "7 10000000000000110 120"),
        ):
            self.assertEqual(console.say(line), wanted)
        self.assertEqual([console.account.uses[23], len(console.account.log)], [1, 6])

    def test_send(self):
        console = Console(PLAIN, OTHER)
        self.assertEqual(console.say("send"), "0 120")
        console.say("enter 0 1")
        console.say("send")
        console.say("enter 0 -1")
        console.say("enter 1 2")
        self.assertEqual(console.say("send"), "2 120, 0 -10, 1 20")
        self.assertEqual([console.say("send") for at in range(21)][-1], "23 120")
        self.refused(NothingToSend, console, "send")
        self.refused(NothingToSend, console, "change one")

    def test_change_and_undo(self):
        console = Console(PLAIN, OTHER)
        self.assertEqual(console.say("change other"), "-")
        self.assertEqual([console.say("bill 0"), console.account.plans], ["100", ((0, OTHER),)])
        console.say("send")
        self.assertEqual(console.say("change one"), "-")
        self.assertEqual(console.account.plans, ((0, OTHER), (1, PLAIN)))
        for many in (2, 1, 0):
            self.assertEqual(console.say("undo"), "-")
            self.assertEqual(len(console.account.log), many)
        self.refused(NothingToUndo, console, "undo")

    def test_use_and_bill(self):
        console = Console(CARRYING, OTHER)
        console.say("enter 5 40")
        self.assertEqual([console.say(f"use {period}") for period in (0, 5, 23)], ["0", "40", "0"])
        self.assertEqual([console.say(f"bill {period}") for period in (0, 5, 23)], ["60", "470", "60"])
        for word in ("use", "bill"):
            for period in (24, -1, 999999999999999, -999999999999999):
                self.refused(InvalidPeriod, console, f"{word} {period}", value=period)

    def test_owed_and_charged(self):
        console = Console(PLAIN, OTHER)
        for line, owed, charged in (("send", "0", "120"), ("enter 0 3", "30", "120"), ("enter 0 -3", "0", "120")):
            console.say(line)
            self.assertEqual([console.say("owed"), console.say("charged")], [owed, charged])
        console.say("enter 0 9")
        console.say("send")
        console.say("enter 0 -9")
        self.assertEqual([console.say("owed"), console.say("charged")], ["-90", "330"])

    def test_lead(self):
        words = set()
        capped = Plan((500,), ((0, 10),), most=600)
        even, uneven = Plan((120,), ((0, 10),)), Plan((100, 140), ((0, 10),))
        self.assertEqual([Console(even, uneven).say("lead one"), Console(uneven, even).say("lead other")], ["number 20"] * 2)
        self.assertEqual([Console(even, capped).say(line) for line in ("lead one", "lead other")], ["ray", "loop"])
        for one, other in pairs_of(121, 60, small_plan):
            console = Console(one, other)
            console.say("enter 0 9")
            console.say("change other")
            before = seen(console)
            for line, found in (("lead one", lead(one, other)), ("lead other", lead(other, one))):
                wanted = f"number {found[1]}" if found[0] == "number" else found[0]
                self.assertEqual(console.say(line), wanted)
                words.add(found[0])
            self.assertEqual(seen(console), before)
        self.assertEqual(words, {"ray", "loop", "number"})

    def test_text(self):
        console = Console(FLEX, FULL)
        self.assertEqual([console.say("text one"), console.say("text other")], [str(FLEX), str(FULL)])
        self.assertEqual(Plan.read(console.say("text other")), FULL)

    def test_errors_of_the_methods(self):
        console = Console(PLAIN, OTHER)
        self.refused(InvalidPeriod, console, "enter 24 1", value=24)
        self.refused(InvalidPeriod, console, "enter -1 -9", value=-1)
        self.refused(NegativeUse, console, "enter 0 -1", use=-1)
        self.refused(NegativeUse, console, "enter 0 -999999999999999", use=-999999999999999)
        console.say("enter 0 5")
        self.refused(NegativeUse, console, "enter 0 -6", use=-1)

    def test_beside_the_slow_account(self):
        chooser = random.Random(122)
        for one, other in pairs_of(123, 40, small_plan):
            console, slow = Console(one, other), SlowAccount(one)
            for step in range(40):
                pick = chooser.random()
                if pick < 0.5:
                    period, units = chooser.randint(-1, 24), chooser.choice((0, 1, 5, 9, 20, -3, -9))
                    line, (error, told) = f"enter {period} {units}", slow.rebilled(period, units)
                    slow.do(("enter", period, units))
                    wanted = ", ".join(f"{at} {old} {new}" for at, old, new in told) or "-" if error is None else None
                elif pick < 0.75:
                    line, (error, told) = "send", slow.do(("send",))
                    if error is None:
                        wanted = f"{told[0]} {told[1]}" + "".join(f", {at} {amount}" for at, amount in told[2])
                elif pick < 0.9:
                    name = chooser.choice(("one", "other"))
                    line, (error, told) = f"change {name}", slow.do(("change", one if name == "one" else other))
                    wanted = "-"
                elif slow.deeds:
                    line, (error, told), wanted = "undo", slow.undo(), "-"
                else:
                    continue
                if error is None:
                    self.assertEqual(console.say(line), wanted)
                else:
                    raised(error, console.say, line)
                shown = slow.after(slow.deeds)[0]
                self.assertEqual({name: getattr(console.account, name) for name in shown}, shown)
                self.assertEqual(console.account.notes(), tuple(slow.noted))


class NearTest(ConsoleCase):
    def near(self, line):
        words = line.split(" ")
        found = [
            f" {line}", f"{line} ", f"{line}\n", f"\n{line}", line.upper(), line.title(), f"{line} 1", f"{line} one",
            f"{line}, {line}", f"{line}\n{line}", line[:-1] + "_", line.replace(" ", "  "), line.replace(" ", "\n"),
            line.replace(" ", "_"), f"-{line}", line[::-1], f"{line}.0",
        ]
        for at in range(len(words)):
            found.append(" ".join(words[:at] + words[at + 1:]))
            if at > 0:
                for sign in ("+", "0", "-0", "--", "", "1_", " "):
                    found.append(" ".join([*words[:at], sign + words[at], *words[at + 1:]]))
                for word in ("", "-", "+1", "01", "-0", "00", "1.0", "1e3", "0x1", "None", "True", "one1", "One", "1" * 16):
                    found.append(" ".join([*words[:at], word, *words[at + 1:]]))
                found.append(" ".join([*words[:at], "-" + "9" * 16, *words[at + 1:]]))
                found.append(" ".join([*words[:at], "1" + "0" * 4000, *words[at + 1:]]))
        return [other for other in found if other != line and other not in ("enter 3 -5",)]

    def test_lines_near_one(self):
        console = Console(CARRYING, OTHER)
        console.say("enter 3 9")
        console.say("send")
        for line in ("enter 3 5", *[line for line in LINES if not line.startswith("enter")]):
            console.say(line)
            for other in self.near(line):
                with self.subTest(line=line, other=other[:60]):
                    self.refused(InvalidLine, console, other, value=other)

    def test_other_lines(self):
        console = Console(CARRYING, OTHER)
        for line in (
            "", " ", "-", "0", "one", "other", "enter", "enter 3", "enter one 3", "enter 3 one", "use one", "bill other",
            "send one", "send 0", "undo 1", "owed one", "charged 0", "lead", "lead 1", "lead both", "text", "text 0",
            "change", "change 1", "change plan", "notes", "log", "limit 5", "do send", "use", "use 1 2", "bill 1 2",
            "enter 1 2 3", "enter\t1 2", "text one other", "lead one other", "sendsend", "one text",
        ):
            self.refused(InvalidLine, console, line, value=line)

    def test_numbers_of_15_digits(self):
        console = Console(PLAIN, OTHER)
        self.assertEqual(console.say("enter 0 " + "9" * 15)[:6], "0 120 ")
        console.say("enter 0 -" + "9" * 15)
        for word in ("9" * 16, "-" + "9" * 16, "1" + "0" * 15, "9" * 4990):
            self.refused(InvalidLine, console, f"enter 0 {word}", value=f"enter 0 {word}")
            self.refused(InvalidLine, console, f"use {word}", value=f"use {word}")

    def test_values_of_every_kind(self):
        console = Console(CARRYING, OTHER)
        for value in SAMPLES:
            self.refused(InvalidLine, console, value, value=value)
        for line in LINES:
            self.refused(InvalidLine, console, (line,), value=(line,))
            self.refused(InvalidLine, console, [line], value=[line])


class MadeTest(ConsoleCase):
    def test_the_account(self):
        console = Console(CARRYING, OTHER)
        self.assertIs(type(console.account), NotedAccount)
        self.assertEqual(console.account.plans, ((0, CARRYING),))
        console.account.enter(2, 8)
        self.assertEqual(console.say("use 2"), "8")
        self.assertEqual(console.account.notes(), ((("enter", 2, 8), None),))
        by_name = Console(other=OTHER, one=CARRYING)
        self.assertEqual([by_name.say(line="text one"), by_name.account.plans], [str(CARRYING), ((0, CARRYING),)])

    def test_errors_in_their_order(self):
        for value in SAMPLES:
            if type(value) is not Plan:
                self.assertIs(raised(NotAPlan, Console, value, None).value, value)
                self.assertIs(raised(NotAPlan, Console, FLEX, value).value, value)
        self.assertTrue(issubclass(NotAPlan, FormError) and issubclass(NothingToSend, StateError))

    def test_consoles_do_not_disturb_each_other(self):
        one, other = Console(PLAIN, OTHER), Console(PLAIN, OTHER)
        before = seen(other)
        for line in LINES:
            one.say(line)
        self.assertEqual(seen(other), before)
        other.say("enter 1 1")
        self.assertEqual([one.say("use 1"), other.say("use 1")], ["0", "1"])


if __name__ == "__main__":
    unittest.main()
