"""The bills of one state as pieces, so that infinitely many uses are looked at through a few of them."""

from everybill.charges import available_units, charge, full_cost, successor


class Piece:
    """Uses whose bills grow evenly: those from `first` to `last`, or all from `first` on if `last` is None.

    The use `first` has this bill, each unit more adds `step` to it, and all of them lead to this next state.
    """

    def __init__(self, first, last, bill, step, state):
        self.first = first
        self.last = last
        self.bill = bill
        self.step = step
        self.state = state

    def bill_of(self, use):
        """Return the bill of one of these uses."""
        return self.bill + (use - self.first) * self.step


def first_reaching(plan, state, amount):
    """Return the least use whose full cost is at least this amount, or None if there is none."""
    if full_cost(plan, state, 0) >= amount:
        return 0
    starts = [available_units(plan, state) + tier[0] for tier in plan.tiers]
    costs = [full_cost(plan, state, start) for start in starts]
    # Costs never fall, so the amount is reached within the last tier that begins below it, or never.
    at = len([cost for cost in costs if cost < amount]) - 1
    price = plan.tiers[at][1]
    if price == 0:
        return None
    return starts[at] - (costs[at] - amount) // price


def turns(plan, state):
    """Return the ascending list of the first uses of the pieces."""
    available = available_units(plan, state)
    marks = [0, *[available + tier[0] for tier in plan.tiers], *[available - rest for rest in range(plan.carry)]]
    amounts = [plan.least, plan.most]
    if plan.streak is not None:
        marks.append(plan.streak[0])
        amounts.append(plan.streak[2])
    for amount in amounts:
        if amount is not None:
            marks.append(first_reaching(plan, state, amount))
    return sorted(set([mark for mark in marks if mark is not None and mark >= 0]))


def step_at(plan, state, use):
    """Return what one unit more than this use adds to the bill."""
    return charge(plan, state, use + 1) - charge(plan, state, use)


def pieces_of(plan, state, most_use=None):
    """Return the ascending list of the pieces of this state; together they have all uses up to the bound."""
    firsts = [first for first in turns(plan, state) if most_use is None or first <= most_use]
    lasts = [*[first - 1 for first in firsts[1:]], most_use]
    return [
        Piece(first, last, charge(plan, state, first), step_at(plan, state, first), successor(plan, state, first))
        for first, last in zip(firsts, lasts)
    ]


def pieces_by_state(plan, most_use=None):
    """Return a dict with the pieces of each state of the plan, reached or not."""
    row = 0 if plan.streak is None else plan.streak[1]
    return {
        (carried, busy, turn): pieces_of(plan, (carried, busy, turn), most_use)
        for carried in range(plan.carry + 1)
        for busy in range(row + 1)
        for turn in range(len(plan.fees))
    }
