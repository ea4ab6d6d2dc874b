"""A slow account, which keeps nothing but the deeds that count and reckons all anew from them (point 16)."""

from everybill.errors import InvalidPeriod, InvalidUnits, NegativeUse, NotAPlan, NothingToSend, OverLimit
from everybill.plans import Plan
from tests.samples import is_integer
from tests.slow import slow_after, slow_bill


def slow_bills(plans, uses):
    """Return the bills of all periods, where `plans` has the plan that begins with a period."""
    found = []
    for period, use in enumerate(uses):
        if period in plans:
            plan, state = plans[period], (0, 0, 0)
        found.append(slow_bill(plan, state, use))
        state = slow_after(plan, state, use)
    return found


def slow_invoice(bills, invoices):
    """Return the next invoice behind these ones."""
    corrections = []
    for earlier in range(len(invoices)):
        paid = invoices[earlier][1]
        for invoice in invoices:
            paid += sum(amount for period, amount in invoice[2] if period == earlier)
        if paid != bills[earlier]:
            corrections.append((earlier, bills[earlier] - paid))
    return len(invoices), bills[len(invoices)], tuple(corrections)


class SlowAccount:
    def __init__(self, plan, limit=None):
        self.plan = plan
        self.limit = limit
        self.deeds = []
        self.noted = []

    def after(self, deeds):
        """Return the attributes of the account behind these deeds, and the result of the last one."""
        uses, plans, invoices, result = [0] * 24, {0: self.plan}, [], None
        for deed in deeds:
            result = None
            if deed[0] == "enter":
                uses[deed[1]] += deed[2]
            elif deed[0] == "change":
                plans[len(invoices)] = deed[1]
            else:
                result = slow_invoice(slow_bills(plans, uses), invoices)
                invoices.append(result)
        bills = slow_bills(plans, uses)
        charged = sum(bill + sum(amount for at, amount in changes) for period, bill, changes in invoices)
        return {
            "uses": tuple(uses), "bills": tuple(bills), "plans": tuple(sorted(plans.items(), key=lambda pair: pair[0])),
            "invoices": tuple(invoices), "charged": charged, "owed": sum(bills[:len(invoices)]) - charged,
            "log": tuple(deeds),
        }, result

    def over_limit(self, ahead, behind):
        """Return the error if the limit bars these bills, or None."""
        for period, (old, new) in enumerate(zip(ahead["bills"], behind["bills"])):
            if self.limit is not None and old != new and new > self.limit:
                return OverLimit, period
        return None

    def wrong(self, deed):
        """Return the error of this deed as a pair of its class and its attribute, without the limit, or None."""
        now = self.after(self.deeds)[0]
        if deed[0] == "enter":
            if not is_integer(deed[1]) or not 0 <= deed[1] <= 23:
                return InvalidPeriod, deed[1]
            if not is_integer(deed[2]):
                return InvalidUnits, deed[2]
            use = now["uses"][deed[1]] + deed[2]
            return (NegativeUse, use) if use < 0 else None
        if deed[0] == "change" and type(deed[1]) is not Plan:
            return NotAPlan, deed[1]
        return (NothingToSend, None) if len(now["invoices"]) == 24 else None

    def do(self, deed):
        """Return (None, RESULT), or the pair of the error of this deed; then nothing is changed."""
        error = self.wrong(deed)
        if error is None:
            ahead, (behind, result) = self.after(self.deeds)[0], self.after([*self.deeds, deed])
            error = self.over_limit(ahead, behind)
        if error is not None:
            return error
        self.deeds.append(deed)
        self.noted.append((deed, result))
        return None, result

    def do_all(self, deeds):
        kept = list(self.deeds), list(self.noted)
        results = []
        for deed in deeds:
            error, result = self.do(deed)
            if error is not None:
                self.deeds, self.noted = kept
                return error, result
            results.append(result)
        return None, tuple(results)

    def undo(self):
        error = self.over_limit(self.after(self.deeds)[0], self.after(self.deeds[:-1])[0])
        if error is not None:
            return error
        self.deeds.pop()
        self.noted.append((("undo",), None))
        return None, None

    def rebilled(self, period, units):
        error = self.wrong(("enter", period, units))
        if error is not None:
            return error
        ahead = self.after(self.deeds)[0]["bills"]
        behind = self.after([*self.deeds, ("enter", period, units)])[0]["bills"]
        changes = [(at, old, new) for at, (old, new) in enumerate(zip(ahead, behind)) if old != new]
        return None, tuple(changes)
