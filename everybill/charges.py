"""Bills and next states (point 9) for plans, states and uses that are known to be valid."""


def available_units(plan, state):
    """Return the number of units that are free in this state."""
    return plan.included + state[0]


def tier_lines(plan, state, use):
    """Return the list of the lines of the tiers that have units beyond the available ones."""
    beyond = use - available_units(plan, state)
    ends = [*[tier[0] for tier in plan.tiers[1:]], beyond]
    rows = []
    for (start, price), end in zip(plan.tiers, ends):
        units = min(end, beyond) - start
        if units > 0:
            rows.append(("tier", start, units, units * price))
    return rows


def full_cost(plan, state, use):
    """Return the fee and the costs of all units beyond, before anything raises, lowers or reduces them."""
    return plan.fees[state[2]] + sum([row[-1] for row in tier_lines(plan, state, use)])


def settled(plan, state, cost):
    """Return what becomes of the full cost behind the least bill, then the greatest bill, then the streak."""
    raised = max(cost, plan.least)
    lowered = raised if plan.most is None else min(raised, plan.most)
    if plan.streak is None or state[1] != plan.streak[1]:
        return raised, lowered, lowered
    return raised, lowered, max(lowered - plan.streak[2], 0)


def charge(plan, state, use):
    """Return the bill of this use."""
    return settled(plan, state, full_cost(plan, state, use))[-1]


def next_busy(plan, busy, use):
    """Return the BUSY of the next state."""
    if plan.streak is None or use < plan.streak[0]:
        return 0
    return min(busy + 1, plan.streak[1])


def successor(plan, state, use):
    """Return the next state behind this use."""
    carried = min(plan.carry, max(available_units(plan, state) - use, 0))
    return carried, next_busy(plan, state[1], use), (state[2] + 1) % len(plan.fees)
