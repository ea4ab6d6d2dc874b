"""Which plan to be on in which period, if the uses are known (point 15)."""

from everybill.charges import charge, successor
from everybill.checks import check_plans, check_uses
from everybill.errors import InvalidAmount, InvalidRow
from everybill.histories import bills
from everybill.limits import START
from everybill.values import is_between, is_tuple_of, is_whole


def check_change(value):
    """Raise InvalidAmount if the value is not an integer from 0 on."""
    if not is_whole(value) or value < 0:
        raise InvalidAmount(value)


def check_row(value, periods, plans):
    """Raise InvalidRow if the value is not a row of indexes of so many plans, one for each period."""
    if not is_tuple_of(value, periods, periods):
        raise InvalidRow(None)
    for at, index in enumerate(value):
        if not is_between(index, 0, plans - 1):
            raise InvalidRow(at)


def row_cost(uses, row, *plans, change=0):
    """Return the cost of this row."""
    check_uses(uses)
    check_plans(plans)
    check_row(row, len(uses), len(plans))
    check_change(change)
    cost = 0
    state = START
    for at, use in enumerate(uses):
        if at > 0 and row[at] != row[at - 1]:
            cost += change
            state = START
        cost += charge(plans[row[at]], state, use)
        state = successor(plans[row[at]], state, use)
    return cost


def start_costs(plan, uses):
    """Return the list of the totals of the first period, of the first two, and so on, from the start."""
    costs = []
    cost = 0
    for amount, state in bills(plan, uses):
        cost += amount
        costs.append(cost)
    return costs


def extended(best, costs, index, change):
    """Return the best pair (COST, ROW) of the rows up to the next period that end with this index.

    `best` has the list of these pairs by index for each earlier period; `costs` has, for each period from which on the
    plan of this index may hold, the list of its totals from there on.
    """
    at = len(best)
    found = [(costs[0][at], (index,) * (at + 1))]
    for first in range(1, at + 1):
        others = [pair for other, pair in enumerate(best[first - 1]) if other != index]
        if len(others) > 0:
            cost, row = min(others)
            found.append((cost + change + costs[first][at - first], row + (index,) * (at + 1 - first)))
    return min(found)


def best_rows(uses, plans, change):
    """Return for each period the list of the pairs (COST, ROW) by index: of the rows up to this period that end with
    this index the least cost, and the least tuple of those that have it.

    All of these have the same length, so the least tuple of all periods begins with one of them.
    """
    costs = [[start_costs(plan, uses[first:]) for first in range(len(uses))] for plan in plans]
    best = []
    for use in uses:
        following = [extended(best, costs[index], index, change) for index in range(len(plans))]
        best.append(following)
    return best


def cheapest(uses, *plans, change=0):
    """Return the least cost and the least tuple of the rows that have it."""
    check_uses(uses)
    check_plans(plans)
    check_change(change)
    best = best_rows(uses, plans, change)
    if len(best) == 0:
        return 0, ()
    return min(best[-1])
