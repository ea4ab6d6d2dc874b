"""One bill: its amount, its lines, what follows it, and how bills go on for great uses (points 8 and 9)."""

from everybill.charges import available_units, charge, full_cost, settled, successor, tier_lines
from everybill.checks import check_period, check_plan, check_state
from everybill.pieces import step_at, turns


def bill(plan, state, use):
    """Return the bill of this use in this state."""
    check_period(plan, state, use)
    return charge(plan, state, use)


def after(plan, state, use):
    """Return the next state behind this use in this state."""
    check_period(plan, state, use)
    return successor(plan, state, use)


def lines(plan, state, use):
    """Return the lines of the bill; their last elements add up to it."""
    check_period(plan, state, use)
    rows = [("fee", plan.fees[state[2]])]
    free = min(use, available_units(plan, state))
    if free > 0:
        rows.append(("free", free, 0))
    rows.extend(tier_lines(plan, state, use))
    amount = full_cost(plan, state, use)
    for word, result in zip(("least", "most", "streak"), settled(plan, state, amount)):
        if result != amount:
            rows.append((word, result - amount))
        amount = result
    return tuple(rows)


def tail(plan, state):
    """Return (FAR, BILL, STEP): from the use FAR on, which has this BILL, each unit more adds STEP."""
    check_plan(plan)
    check_state(plan, state)
    starts = turns(plan, state)
    far = starts[-1]
    step, following = step_at(plan, state, far), successor(plan, state, far)
    # The last use of a piece may be on one line with the next piece, so each is looked at by itself.
    candidates = sorted(set([*starts, *[start - 1 for start in starts if start > 0]]))
    for use in candidates[::-1]:
        if step_at(plan, state, use) != step or successor(plan, state, use) != following:
            break
        far = use
    return far, charge(plan, state, far), step
