"""What the uses, plans and invoices of an account come to (point 16)."""

from everybill.checks import check_account_period
from everybill.errors import InvalidUnits, NegativeUse
from everybill.histories import bills
from everybill.limits import MOST_PERIODS
from everybill.values import is_whole


def billed(plans, uses):
    """Return the tuple of the bills of all periods with these pairs (PERIOD, PLAN) and these uses."""
    ends = [*[first for first, plan in plans[1:]], MOST_PERIODS]
    amounts = []
    for (first, plan), end in zip(plans, ends):
        part = uses[first:end]
        amounts.extend([amount for amount, state in bills(plan, part)])
    return tuple(amounts)


def entered(uses, period, units):
    """Return the uses with these units added to the one of this period."""
    check_account_period(period)
    if not is_whole(units):
        raise InvalidUnits(units)
    use = uses[period] + units
    if use < 0:
        raise NegativeUse(use)
    return uses[:period] + (use,) + uses[period + 1:]


def paid(invoices):
    """Return the list of what was charged so far for each period that was sent."""
    amounts = []
    for period, amount, corrections in invoices:
        amounts.append(amount)
        for earlier, change in corrections:
            amounts[earlier] += change
    return amounts


def next_invoice(amounts, invoices):
    """Return the invoice that follows these, if these are the bills of all periods."""
    charged = paid(invoices)
    corrections = [(at, amounts[at] - amount) for at, amount in enumerate(charged) if amounts[at] != amount]
    return len(invoices), amounts[len(invoices)], tuple(corrections)
