"""A slow checker: by the words of the document, over all uses near which bills turn and some far beyond."""

import functools

from everybill.plans import Plan
from tests.samples import is_integer
from tests.slow import all_states, slow_after, slow_bill, slow_lead, slow_loss, slow_state, turning_uses
from tests.slow_rows import slow_cost

START = (0, 0, 0)
FAR = 10 ** 13


def plan_of(form):
    """Return the plan with this form, or None."""
    if type(form) is not tuple or len(form) != 7:
        return None
    fees, tiers, included, carry, least, most, streak = form
    try:
        return Plan(fees, tiers, included=included, carry=carry, least=least, most=most, streak=streak)
    except ValueError:
        return None


def is_use(value):
    return is_integer(value) and value >= 0


def is_history(value):
    return type(value) is tuple and all(is_use(use) for use in value)


def is_thrift_history(value):
    if type(value) is not tuple or not all(is_history(pair) and len(pair) == 2 for pair in value):
        return False
    return all(less <= more for less, more in value)


@functools.lru_cache(maxsize=None)
def deciding_uses(*forms):
    return {*turning_uses(*[plan_of(form) for form in forms]), FAR, FAR + 1}


def allowed_uses(most_use, *plans):
    """Return the ascending list of allowed uses that decide; each of these has all turns with their neighbours."""
    uses = deciding_uses(*[plan.form for plan in plans])
    if most_use is not None:
        uses = {use for use in uses if use <= most_use} | {most_use}
    return sorted(uses)


def step(plan, state, use):
    return slow_bill(plan, state, use), slow_after(plan, state, use)


def table_of(one, other, rows, amount):
    """Return the dict of this table, or None."""
    if type(rows) is not tuple or not all(type(row) is tuple and len(row) == 3 for row in rows):
        return None
    for state, beside, number in rows:
        for plan, value in ((one, state), (other, beside)):
            if type(value) is not tuple or not all(map(is_integer, value)) or value not in all_states(plan):
                return None
        if not is_integer(number) or number > amount:
            return None
    pairs = [row[:2] for row in rows]
    if pairs != sorted(set(pairs)) or dict.fromkeys(pairs) == {}:
        return None
    table = {row[:2]: row[2] for row in rows}
    return table if table.get((START, START), -1) >= 0 else None


def slow_ahead(certificate, one, other, history, amount):
    return is_history(history) and is_integer(amount) and slow_lead(one, other, history) == amount


def slow_loop(certificate, one, other, history, loop):
    if not is_history(history) or not is_history(loop) or not loop:
        return False
    same = [slow_state(plan, history) == slow_state(plan, history + loop) for plan in (one, other)]
    return all(same) and slow_lead(one, other, history + loop) > slow_lead(one, other, history)


def slow_ray(certificate, one, other, history, far):
    if not is_history(history) or not is_use(far):
        return False
    uses = [far, far + 1, *[use for use in allowed_uses(None, one, other) if use >= far]]
    state, beside = slow_state(one, history), slow_state(other, history)

    def gap(use):
        return slow_bill(one, state, use) - slow_bill(other, beside, use)

    return all(gap(use + 1) > gap(use) for use in uses)


def slow_never(certificate, one, other, most_use, amount):
    if most_use is not None and not is_use(most_use) or not is_integer(amount):
        return False
    table = table_of(one, other, certificate, amount)
    if table is None:
        return False
    uses = allowed_uses(most_use, one, other)
    for (state, beside), number in table.items():
        gaps = [slow_bill(one, state, use) - slow_bill(other, beside, use) for use in (FAR, FAR + 1)]
        if most_use is None and gaps[0] < gaps[1]:
            return False
        for use in uses:
            (bill, behind), (less, behind_too) = step(one, state, use), step(other, beside, use)
            if number + bill - less > table.get((behind, behind_too), -10 ** 60):
                return False
    return True


def slow_apart(certificate, one, other, history):
    if not is_history(history) or not history:
        return False
    bills = [slow_bill(plan, slow_state(plan, history[:-1]), history[-1]) for plan in (one, other)]
    return bills[0] != bills[1]


def slow_alike(certificate, one, other):
    if type(certificate) is not tuple or not all(type(row) is tuple and len(row) == 2 for row in certificate):
        return False
    rows = tuple((*row, 0) for row in certificate)
    return slow_never(rows, one, other, None, 0) and slow_never(
        tuple(sorted((second, first, 0) for first, second, number in rows)), other, one, None, 0)


def slow_lost(certificate, plan, pairs, amount):
    return is_thrift_history(pairs) and is_integer(amount) and slow_loss(plan, pairs) == amount


def slow_losing(certificate, plan, pairs, loop):
    if not is_thrift_history(pairs) or not is_thrift_history(loop) or not loop:
        return False
    same = [
        slow_state(plan, [pair[at] for pair in pairs]) == slow_state(plan, [pair[at] for pair in pairs + loop])
        for at in (0, 1)
    ]
    return all(same) and slow_loss(plan, pairs + loop) > slow_loss(plan, pairs)


def slow_thrifty(certificate, plan, most_use, amount):
    if most_use is not None and not is_use(most_use) or not is_integer(amount):
        return False
    table = table_of(plan, plan, certificate, amount)
    if table is None:
        return False
    uses = allowed_uses(most_use, plan)
    steps = {state: [step(plan, state, use) for use in uses] for pair in table for state in pair}
    for (state, beside), number in table.items():
        dearest = {}
        for (bill, behind), (more, behind_too) in zip(steps[state], steps[beside]):
            # Of all LESS up to this MORE only the dearest one to each state counts.
            dearest[behind] = max(bill, dearest.get(behind, bill))
            for behind, bill in dearest.items():
                if number + bill - more > table.get((behind, behind_too), -10 ** 60):
                    return False
    return True


def slow_cheapest(certificate, forms, uses, change, row):
    if type(forms) is not tuple or not 1 <= len(forms) <= 4 or not is_history(uses) or not is_use(change):
        return False
    plans = [plan_of(form) for form in forms]
    if None in plans or not is_history(row) or len(row) != len(uses) or not all(at < len(plans) for at in row):
        return False
    if type(certificate) is not tuple or len(certificate) != len(uses):
        return False
    for numbers in certificate:
        if type(numbers) is not tuple or len(numbers) != len(plans) or not all(map(is_integer, numbers)):
            return False
    for last in range(len(uses)):
        for index, plan in enumerate(plans):
            for first in range(last + 1):
                amount = slow_cost(uses[first:last + 1], (0,) * (last + 1 - first), (plan,), 0)
                ahead = [0] if first == 0 else [
                    change + number for other, number in enumerate(certificate[first - 1]) if other != index
                ]
                if any(certificate[last][index] > amount + cost for cost in ahead):
                    return False
    return not uses or slow_cost(uses, row, plans, change) <= min(certificate[-1])


# For each word the check, the number of plans that come first, and of all parts.
CHECKS = {
    "ahead": (slow_ahead, 2, 4), "loop": (slow_loop, 2, 4), "ray": (slow_ray, 2, 4), "never": (slow_never, 2, 4),
    "apart": (slow_apart, 2, 3), "alike": (slow_alike, 2, 2), "lost": (slow_lost, 1, 3),
    "losing": (slow_losing, 1, 3), "thrifty": (slow_thrifty, 1, 3), "cheapest": (slow_cheapest, 0, 4),
}


def slow_accepts(claim, certificate):
    if type(claim) is not tuple or not claim or type(claim[0]) is not str or claim[0] not in CHECKS:
        return False
    check, many, size = CHECKS[claim[0]]
    parts = claim[1:]
    if len(parts) != size or claim[0] not in ("never", "alike", "thrifty", "cheapest") and certificate is not None:
        return False
    plans = [plan_of(form) for form in parts[:many]]
    return None not in plans and check(certificate, *plans, *parts[many:])
