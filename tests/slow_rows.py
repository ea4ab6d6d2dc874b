"""Costs of rows of plans, found the slow way (point 15)."""

import itertools

from tests.slow import slow_walk


def slow_cost(uses, row, plans, change):
    """Return the cost of a row, one part with the same index after the other."""
    cost = -change if row else 0
    at = 0
    for index, part in itertools.groupby(row):
        many = len(list(part))
        cost += change + sum(bill for bill, state in slow_walk(plans[index], uses[at:at + many]))
        at += many
    return cost


def slow_cheapest(uses, plans, change):
    rows = itertools.product(range(len(plans)), repeat=len(uses))
    return min((slow_cost(uses, row, plans, change), row) for row in rows)
