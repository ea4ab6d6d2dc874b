"""Accounts with late corrections, with a limit, with notes, or with both (point 16)."""

from everybill.checks import check_amount, check_plan
from everybill.errors import FormError, InvalidDeed, NothingToSend, NothingToUndo, OverLimit, StateError
from everybill.ledger import billed, entered, next_invoice, paid
from everybill.limits import MOST_PERIODS
from everybill.values import is_tuple_of

MOST_DEEDS = 24
# How many elements a deed with this word has.
DEED_SIZES = {"enter": 3, "send": 1, "change": 2}


def is_deed(value):
    """Tell whether the value is a tuple of the word of a deed and as many other elements as it has."""
    if not isinstance(value, tuple) or len(value) == 0 or not isinstance(value[0], str):
        return False
    return DEED_SIZES.get(value[0]) == len(value)


def check_deeds(value):
    """Raise InvalidDeed if the value is not a tuple of deeds."""
    if not is_tuple_of(value, 0, MOST_DEEDS):
        raise InvalidDeed(None)
    for at, deed in enumerate(value):
        if not is_deed(deed):
            raise InvalidDeed(at)


class Account:
    """An account of 24 periods."""

    def __init__(self, plan):
        check_plan(plan)
        self.uses = (0,) * MOST_PERIODS
        self.plans = ((0, plan),)
        self.invoices = ()
        self.bills = billed(self.plans, self.uses)
        self.charged = 0
        self.owed = 0
        self.log = ()
        # The uses, plans and invoices ahead of each deed of the log.
        self.past = ()
        # Notes are kept by every account, as whatever takes deeds back takes back their notes with them.
        self.kept = ()

    def refuse(self, amounts):
        """Raise an error if these amounts must not become the bills; an account without a limit takes all."""

    def turn_to(self, uses, plans, invoices):
        """Take over these uses, plans and invoices with all that follows from them, unless it is refused."""
        amounts = billed(plans, uses)
        self.refuse(amounts)
        self.uses = uses
        self.plans = plans
        self.invoices = invoices
        self.bills = amounts
        self.charged = sum(paid(invoices))
        self.owed = sum(amounts[:len(invoices)]) - self.charged

    def finish(self, deed, result, uses, plans, invoices):
        """Finish a deed that has this result and leads to these uses, plans and invoices."""
        ahead = (self.uses, self.plans, self.invoices)
        self.turn_to(uses, plans, invoices)
        self.past = (*self.past, ahead)
        self.log = (*self.log, deed)
        self.kept = (*self.kept, (deed, result))

    def enter(self, period, units):
        """Add these units to the use of this period."""
        uses = entered(self.uses, period, units)
        self.finish(("enter", period, units), None, uses, self.plans, self.invoices)

    def send(self):
        """Send the invoice of the next period and return it."""
        if len(self.invoices) == MOST_PERIODS:
            raise NothingToSend()
        invoice = next_invoice(self.bills, self.invoices)
        self.finish(("send",), invoice, self.uses, self.plans, (*self.invoices, invoice))
        return invoice

    def change_plan(self, plan):
        """Go over to this plan from the next period on that is to be sent."""
        check_plan(plan)
        following = len(self.invoices)
        if following == MOST_PERIODS:
            raise NothingToSend()
        plans = [pair for pair in self.plans if pair[0] < following]
        self.finish(("change", plan), None, self.uses, (*plans, (following, plan)), self.invoices)

    def do(self, deed):
        """Do this deed and return what its method returns."""
        if not is_deed(deed):
            raise InvalidDeed(None)
        if deed[0] == "enter":
            return self.enter(deed[1], deed[2])
        if deed[0] == "send":
            return self.send()
        return self.change_plan(deed[1])

    def do_all(self, deeds):
        """Do all of these deeds, or none of them, and return the tuple of their results."""
        check_deeds(deeds)
        ahead = (self.uses, self.plans, self.invoices, self.bills, self.charged, self.owed)
        log, past, kept = self.log, self.past, self.kept
        try:
            return tuple([self.do(deed) for deed in deeds])
        except (FormError, StateError):
            self.uses, self.plans, self.invoices, self.bills, self.charged, self.owed = ahead
            self.log, self.past, self.kept = log, past, kept
            raise

    def tried(self, deeds, look):
        """Return what `look` returns for the account in which these deeds are done, and take them back."""
        uses, plans, invoices, amounts = self.uses, self.plans, self.invoices, self.bills
        charged, owed, log, past, kept = self.charged, self.owed, self.log, self.past, self.kept
        try:
            self.do_all(deeds)
            return look(self)
        finally:
            self.uses, self.plans, self.invoices, self.bills = uses, plans, invoices, amounts
            self.charged, self.owed, self.log, self.past, self.kept = charged, owed, log, past, kept

    def undo(self):
        """Undo the last deed of the log."""
        if len(self.past) == 0:
            raise NothingToUndo()
        uses, plans, invoices = self.past[-1]
        self.turn_to(uses, plans, invoices)
        self.past = self.past[:-1]
        self.log = self.log[:-1]
        self.kept = (*self.kept, (("undo",), None))

    def rebilled(self, period, units):
        """Return what `enter` would change, as the tuple of (PERIOD, OLD, NEW)."""
        amounts = billed(self.plans, entered(self.uses, period, units))
        return tuple([(at, old, new) for at, (old, new) in enumerate(zip(self.bills, amounts)) if old != new])


class LimitedAccount(Account):
    """An account that lets no bill become greater than a limit."""

    def __init__(self, plan, limit):
        Account.__init__(self, plan)
        check_amount(limit)
        self.limit = limit

    def refuse(self, amounts):
        """Raise OverLimit with the first period whose bill would change to more than the limit."""
        for period, amount in enumerate(amounts):
            if amount > self.limit and amount != self.bills[period]:
                raise OverLimit(period)

    def set_limit(self, limit):
        """Change the limit; bills that are already greater stay."""
        check_amount(limit)
        self.limit = limit


class NotedAccount(Account):
    """An account that tells what was done with it."""

    def __init__(self, plan):
        Account.__init__(self, plan)

    def notes(self):
        """Return the tuple of (DEED, RESULT) of all deeds that were done, and of each undo."""
        return self.kept


class NotedLimitedAccount(NotedAccount, LimitedAccount):
    """An account that has a limit and tells what was done with it."""

    def __init__(self, plan, limit):
        LimitedAccount.__init__(self, plan, limit)

    def set_limit(self, limit):
        """Change the limit; bills that are already greater stay."""
        super().set_limit(limit)

    def notes(self):
        """Return the tuple of (DEED, RESULT) of all deeds that were done, and of each undo."""
        return super().notes()
