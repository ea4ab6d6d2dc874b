"""The checker of certificates, which searches nothing and decides by the words of the document alone.

It shares nothing with the rest of the package but the limits, so that no fault of the rest can make it accept what is
not true. PLAN stands for the form of a plan below: the tuple of its seven parts.
"""

from everybill.limits import MOST_CARRY, MOST_FEES, MOST_FROM, MOST_INCLUDED, MOST_MONEY, MOST_ROW, MOST_STREAK_USE
from everybill.limits import MOST_TIERS, START

MOST_PLANS = 4


def is_whole(value):
    """Tell whether the value is an integer and no truth."""
    return isinstance(value, int) and not isinstance(value, bool)


def is_between(value, least, most):
    """Tell whether the value is an integer from `least` to `most`."""
    return is_whole(value) and least <= value <= most


def is_from_zero(value):
    """Tell whether the value is an integer from 0 on, as uses and changes are."""
    return is_whole(value) and value >= 0


def is_tuple_of(value, many):
    """Tell whether the value is a tuple of so many elements, whatever they are."""
    return isinstance(value, tuple) and len(value) == many


def are_tiers(value):
    """Tell whether the value may be the tiers of a plan."""
    if not isinstance(value, tuple) or not 1 <= len(value) <= MOST_TIERS:
        return False
    least = most = 0
    for tier in value:
        if not is_tuple_of(tier, 2) or not is_between(tier[0], least, most) or not is_between(tier[1], 0, MOST_MONEY):
            return False
        least, most = tier[0] + 1, MOST_FROM
    return True


def is_streak(value):
    """Tell whether the value may be the streak of a plan that has one."""
    if not is_tuple_of(value, 3):
        return False
    use, row, off = value
    return is_between(use, 1, MOST_STREAK_USE) and is_between(row, 1, MOST_ROW) and is_between(off, 0, MOST_MONEY)


def is_plan(value):
    """Tell whether the value is the form of a plan (point 7)."""
    if not is_tuple_of(value, 7):
        return False
    fees, tiers, included, carry, least, most, streak = value
    if not isinstance(fees, tuple) or not 1 <= len(fees) <= MOST_FEES:
        return False
    if not all([is_between(fee, 0, MOST_MONEY) for fee in fees]) or not are_tiers(tiers):
        return False
    if not is_between(included, 0, MOST_INCLUDED) or not is_between(carry, 0, MOST_CARRY):
        return False
    if not is_between(least, 0, MOST_MONEY) or not (most is None or is_between(most, least, MOST_MONEY)):
        return False
    return streak is None or is_streak(streak)


def are_plans(value):
    """Tell whether the value is a tuple of the forms of one to four plans."""
    return isinstance(value, tuple) and 1 <= len(value) <= MOST_PLANS and all([is_plan(plan) for plan in value])


def is_state(plan, value):
    """Tell whether the value is a state of this plan (point 8)."""
    fees, tiers, included, carry, least, most, streak = plan
    if not is_tuple_of(value, 3):
        return False
    row = 0 if streak is None else streak[1]
    return is_between(value[0], 0, carry) and is_between(value[1], 0, row) and is_between(value[2], 0, len(fees) - 1)


def are_uses(value):
    """Tell whether the value is a history of any length."""
    return isinstance(value, tuple) and all([is_from_zero(use) for use in value])


def are_pairs(value):
    """Tell whether the value is a thrift history of any length."""
    if not isinstance(value, tuple):
        return False
    return all([is_tuple_of(pair, 2) and are_uses(pair) and pair[0] <= pair[1] for pair in value])


def is_bound(value):
    """Tell whether the value is a bound of uses, or None."""
    return value is None or is_from_zero(value)


def full_cost(plan, state, use):
    """Return the fee and the costs of all units beyond the available ones."""
    fees, tiers, included, carry, least, most, streak = plan
    beyond = use - included - state[0]
    ends = [*[tier[0] for tier in tiers[1:]], beyond]
    return fees[state[2]] + sum([
        (min(end, beyond) - start) * price for (start, price), end in zip(tiers, ends) if start < beyond
    ])


def bill_at(plan, state, use):
    """Return the bill (point 9)."""
    fees, tiers, included, carry, least, most, streak = plan
    amount = max(full_cost(plan, state, use), least)
    if most is not None:
        amount = min(amount, most)
    if streak is not None and state[1] == streak[1]:
        amount = max(amount - streak[2], 0)
    return amount


def after(plan, state, use):
    """Return the next state (point 9)."""
    fees, tiers, included, carry, least, most, streak = plan
    carried = max(min(included + state[0] - use, carry), 0)
    busy = 0 if streak is None or use < streak[0] else min(state[1] + 1, streak[1])
    return carried, busy, (state[2] + 1) % len(fees)


def marks_of(plan, state):
    """Return the ascending list of uses between which bills grow evenly and lead to the same state.

    From each of them to the one ahead of the next one, and from the last one on, all units cost the same, the sum stays
    below or from `least`, `most` and OFF on, as many units are carried on, and all periods are busy or none is.
    """
    fees, tiers, included, carry, least, most, streak = plan
    free = included + state[0]
    marks = [0, *[free + tier[0] for tier in tiers], *[free - rest for rest in range(carry)]]
    if streak is not None:
        marks.append(streak[0])
    for amount in (least, most, None if streak is None else streak[2]):
        if amount is not None:
            # The sum reaches the amount within the last tier that begins below it, or at no use at all.
            below = [tier for tier in tiers if full_cost(plan, state, free + tier[0]) < amount]
            if len(below) > 0 and below[-1][1] > 0:
                start, price = below[-1]
                marks.append(free + start - (full_cost(plan, state, free + start) - amount) // price)
    return sorted(set([mark for mark in marks if mark >= 0]))


class Span:
    """The uses from `first` to `last`, or without end if it is None; they lead to one state, and bills grow evenly."""

    def __init__(self, plan, state, first, last):
        self.first = first
        self.last = last
        self.bill = bill_at(plan, state, first)
        self.step = bill_at(plan, state, first + 1) - self.bill
        self.state = after(plan, state, first)

    def bill_of(self, use):
        """Return the bill of one of these uses."""
        return self.bill + (use - self.first) * self.step

    def ends_ahead_of(self, use):
        """Tell whether all of these uses are less than this one."""
        return self.last is not None and self.last < use


def spans_of(plan, state, most_use):
    """Return the ascending list of the spans of all uses up to the bound."""
    firsts = [mark for mark in marks_of(plan, state) if most_use is None or mark <= most_use]
    lasts = [*[first - 1 for first in firsts[1:]], most_use]
    return [Span(plan, state, first, last) for first, last in zip(firsts, lasts)]


def fits_lead(span, beside, room):
    """Tell whether no use of both spans adds more than `room` to the lead; if `room` is None, there must be no use."""
    first = max(span.first, beside.first)
    if span.ends_ahead_of(first) or beside.ends_ahead_of(first):
        return True
    lasts = [last for last in (span.last, beside.last) if last is not None]
    if room is None or len(lasts) == 0 and span.step > beside.step:
        return False
    return all([span.bill_of(use) - beside.bill_of(use) <= room for use in (first, min(lasts, default=first))])


def fits_alike(span, beside, room):
    """Tell whether each use of both spans has the same bill, if `room` is 0; if it is None, there must be no use."""
    return fits_lead(span, beside, room) and fits_lead(beside, span, room)


def fits_loss(span, beside, room):
    """Tell whether no LESS of the one span and MORE of the other one, LESS at most MORE, lose more than `room`.

    If `room` is None, there must be no such pair. The least MORE for a LESS loses most, so it is enough to look at each
    LESS at which a span begins or ends, and at how both go on where neither ends.
    """
    if beside.ends_ahead_of(span.first):
        return True
    if room is None or span.last is None and beside.last is None and span.step > beside.step:
        return False
    for less in (span.first, span.last, beside.first, beside.last):
        if less is not None and less >= span.first and not span.ends_ahead_of(less) and not beside.ends_ahead_of(less):
            if span.bill_of(less) - beside.bill_of(max(less, beside.first)) > room:
                return False
    return True


def read_table(one, other, rows):
    """Return the dict from pairs of states to numbers that these rows give, or None if they do not have its form."""
    if not isinstance(rows, tuple):
        return None
    for row in rows:
        if not is_tuple_of(row, 3) or not is_state(one, row[0]) or not is_state(other, row[1]) or not is_whole(row[2]):
            return None
    pairs = [row[:2] for row in rows]
    if any([pair >= following for pair, following in zip(pairs, pairs[1:])]):
        return None
    return {(row[0], row[1]): row[2] for row in rows}


def is_closed(table, spans, others, fits):
    """Tell whether all uses lead from each pair of the table to pairs of it, with numbers that fit."""
    for (state, beside), number in table.items():
        for span in spans[state]:
            for other in others[beside]:
                following = table.get((span.state, other.state))
                if not fits(span, other, None if following is None else following - number):
                    return False
    return True


def is_shown(one, other, most_use, amount, rows, fits):
    """Tell whether these rows are a table that has the starts, does not exceed the amount and is closed."""
    table = read_table(one, other, rows)
    if table is None or table.get((START, START), -1) < 0 or max(list(table.values())) > amount:
        return False
    spans = {state: spans_of(one, state, most_use) for state in sorted(set([pair[0] for pair in table]))}
    others = {state: spans_of(other, state, most_use) for state in sorted(set([pair[1] for pair in table]))}
    return is_closed(table, spans, others, fits)


def behind(one, other, pairs):
    """Return the total of the first uses with ONE minus that of the second ones with OTHER, and the states behind."""
    amount = 0
    state = beside = START
    for use, more in pairs:
        amount += bill_at(one, state, use) - bill_at(other, beside, more)
        state, beside = after(one, state, use), after(other, beside, more)
    return amount, (state, beside)


def grows(one, other, pairs, loop):
    """Tell whether the loop adds something (an empty one does not) and leads back to the states behind the pairs."""
    amount, states = behind(one, other, pairs)
    more, same = behind(one, other, pairs + loop)
    return same == states and more > amount


def doubled(history):
    """Return the pairs in which each use of the history stands beside itself."""
    return tuple([(use, use) for use in history])


def row_cost(plans, uses, change, row):
    """Return the cost of this row of plans (point 15)."""
    cost = 0
    state = START
    for at, use in enumerate(uses):
        if at > 0 and row[at] != row[at - 1]:
            cost += change
            state = START
        cost += bill_at(plans[row[at]], state, use)
        state = after(plans[row[at]], state, use)
    return cost


def fits_plan(plan, uses, change, table, index):
    """Tell whether no number of this plan is greater than what follows from its bills and the numbers of the others."""
    # Of all periods with which the plan may have begun, only the cheapest one for each of its states counts.
    ways = {START: 0}
    for at, use in enumerate(uses):
        if at > 0 and len(table[at]) > 1:
            entry = change + min([number for other, number in enumerate(table[at - 1]) if other != index])
            ways[START] = min(entry, ways.get(START, entry))
        following = {}
        for state, cost in ways.items():
            amount = cost + bill_at(plan, state, use)
            target = after(plan, state, use)
            if table[at][index] > amount:
                return False
            following[target] = min(amount, following.get(target, amount))
        ways = following
    return True


def check_ahead(certificate, one, other, history, amount):
    """Tell whether the history has this lead."""
    return behind(one, other, doubled(history))[0] == amount


def check_loop(certificate, one, other, history, loop):
    """Tell whether the lead grows with each repetition of the loop."""
    return grows(one, other, doubled(history), doubled(loop))


def check_ray(certificate, one, other, history, far):
    """Tell whether behind the history each unit more makes the lead greater, from the use `far` on."""
    state, beside = behind(one, other, doubled(history))[1]
    # Between two marks each unit adds the same; what the unit adds that leads to a mark is looked at by itself.
    marks = [*marks_of(one, state), *marks_of(other, beside)]
    uses = [far, *[use for mark in marks for use in (mark - 1, mark) if use > far]]
    gaps = [[bill_at(one, state, use + unit) - bill_at(other, beside, use + unit) for unit in (0, 1)] for use in uses]
    return all([gap < following for gap, following in gaps])


def check_never(certificate, one, other, most_use, amount):
    """Tell whether the certificate shows that no history has a greater lead."""
    return is_shown(one, other, most_use, amount, certificate, fits_lead)


def check_apart(certificate, one, other, history):
    """Tell whether the history parts both plans."""
    state, beside = behind(one, other, doubled(history[:-1]))[1]
    return len(history) > 0 and bill_at(one, state, history[-1]) != bill_at(other, beside, history[-1])


def check_alike(certificate, one, other):
    """Tell whether the certificate shows that both plans always bill alike."""
    if not isinstance(certificate, tuple) or not all([is_tuple_of(row, 2) for row in certificate]):
        return False
    return is_shown(one, other, None, 0, tuple([(*row, 0) for row in certificate]), fits_alike)


def check_lost(certificate, plan, pairs, amount):
    """Tell whether the thrift history has this loss."""
    return behind(plan, plan, pairs)[0] == amount


def check_losing(certificate, plan, pairs, loop):
    """Tell whether the loss grows with each repetition of the loop."""
    return grows(plan, plan, pairs, loop)


def check_thrifty(certificate, plan, most_use, amount):
    """Tell whether the certificate shows that no thrift history has a greater loss."""
    return is_shown(plan, plan, most_use, amount, certificate, fits_loss)


def check_cheapest(certificate, plans, uses, change, row):
    """Tell whether the certificate shows that no row costs less than this one."""
    if not is_tuple_of(row, len(uses)) or not is_tuple_of(certificate, len(uses)):
        return False
    if not all([is_between(index, 0, len(plans) - 1) for index in row]):
        return False
    for numbers in certificate:
        if not is_tuple_of(numbers, len(plans)) or not all([is_whole(number) for number in numbers]):
            return False
    if len(uses) > 0 and row_cost(plans, uses, change, row) > min(certificate[-1]):
        return False
    return all([fits_plan(plan, uses, change, certificate, index) for index, plan in enumerate(plans)])


# For each word of a claim what its other parts must be.
FORMS = {
    "ahead": (is_plan, is_plan, are_uses, is_whole),
    "loop": (is_plan, is_plan, are_uses, are_uses),
    "ray": (is_plan, is_plan, are_uses, is_from_zero),
    "never": (is_plan, is_plan, is_bound, is_whole),
    "apart": (is_plan, is_plan, are_uses),
    "alike": (is_plan, is_plan),
    "lost": (is_plan, are_pairs, is_whole),
    "losing": (is_plan, are_pairs, are_pairs),
    "thrifty": (is_plan, is_bound, is_whole),
    "cheapest": (are_plans, are_uses, is_from_zero, are_uses),
}
CHECKS = {
    "ahead": check_ahead, "loop": check_loop, "ray": check_ray, "never": check_never, "apart": check_apart,
    "alike": check_alike, "lost": check_lost, "losing": check_losing, "thrifty": check_thrifty,
    "cheapest": check_cheapest,
}
WITH_TABLES = ("never", "alike", "thrifty", "cheapest")


def accepts(claim, certificate):
    """Tell whether the claim and the certificate have one of the forms of the document, and show what they claim."""
    if not isinstance(claim, tuple) or len(claim) == 0 or not isinstance(claim[0], str) or claim[0] not in FORMS:
        return False
    forms, parts = FORMS[claim[0]], claim[1:]
    if len(forms) != len(parts) or certificate is not None and claim[0] not in WITH_TABLES:
        return False
    for at, part in enumerate(parts):
        has_form = forms[at]
        if not has_form(part):
            return False
    check = CHECKS[claim[0]]
    return check(certificate, *parts)
