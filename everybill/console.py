"""A console, which does with an account what lines of words say."""

from everybill.accounts import NotedAccount
from everybill.checks import check_account_period, check_plan
from everybill.errors import InvalidLine
from everybill.leads import lead
from everybill.words import number_of


class Console:
    """A console with an account and two plans that it may have."""

    def __init__(self, one, other):
        check_plan(one)
        check_plan(other)
        self.one = one
        self.other = other
        self.account = NotedAccount(one)

    def say(self, line):
        """Do what the line says and return a text."""
        if not isinstance(line, str):
            raise InvalidLine(line)
        word, *rest = line.split(" ")
        numbers = [number_of(part) for part in rest]
        told = None
        if len(rest) == 0:
            told = self.say_word(word)
        elif rest == ["one"]:
            told = self.say_plan(word, self.one, self.other)
        elif rest == ["other"]:
            told = self.say_plan(word, self.other, self.one)
        elif None not in numbers:
            told = self.say_numbers(word, numbers)
        if told is None:
            raise InvalidLine(line)
        return told

    def say_word(self, word):
        """Return the text of a line that is this word alone, or None if there is no such line."""
        if word == "send":
            return self.send()
        if word == "undo":
            self.account.undo()
            return "-"
        if word == "owed":
            return str(self.account.owed)
        if word == "charged":
            return str(self.account.charged)
        return None

    def say_plan(self, word, plan, beside):
        """Return the text of a line with this word and the name of a plan, or None if there is no such line."""
        if word == "change":
            self.account.change_plan(plan)
            return "-"
        if word == "lead":
            found = lead(plan, beside)
            return f"number {found[1]}" if found[0] == "number" else found[0]
        if word == "text":
            return str(plan)
        return None

    def say_numbers(self, word, numbers):
        """Return the text of a line with this word and these numbers, or None if there is no such line."""
        if word == "enter" and len(numbers) == 2:
            return self.enter(numbers[0], numbers[1])
        if word == "use" and len(numbers) == 1:
            check_account_period(numbers[0])
            return str(self.account.uses[numbers[0]])
        if word == "bill" and len(numbers) == 1:
            check_account_period(numbers[0])
            return str(self.account.bills[numbers[0]])
        return None

    def enter(self, period, units):
        """Add these units to the use of this period and return the text of the bills that changed."""
        changes = self.account.rebilled(period, units)
        self.account.enter(period, units)
        return ", ".join([f"{at} {old} {new}" for at, old, new in changes]) if len(changes) > 0 else "-"

    def send(self):
        """Send the invoice of the next period and return its text."""
        period, amount, corrections = self.account.send()
        return ", ".join([f"{period} {amount}", *[f"{earlier} {change}" for earlier, change in corrections]])
