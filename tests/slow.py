"""Bills, histories and leads found the slow way, by the words of the document and without the package's own functions.

Where a function takes `uses`, it looks at just these uses in each period; the caller sees to it that they are enough.
"""

import itertools


def full_sum(plan, state, use):
    """Return the fee and the costs of the units beyond, put together unit by unit (point 9)."""
    carried, busy, turn = state
    amount = plan.fees[turn]
    for number in range(use - plan.included - carried):
        amount += [price for start, price in plan.tiers if start <= number][-1]
    return amount


def great_sum(plan, state, use):
    """Return the same sum for uses of any size."""
    beyond = use - plan.included - state[0]
    ends = [start for start, price in plan.tiers][1:] + [10 ** 50]
    return plan.fees[state[2]] + sum(
        price * max(0, min(end, beyond) - start) for (start, price), end in zip(plan.tiers, ends)
    )


def settle(plan, state, amount):
    """Return the bill whose fee and units cost this amount."""
    if amount < plan.least:
        amount = plan.least
    if plan.most is not None and amount > plan.most:
        amount = plan.most
    if plan.streak is not None and state[1] == plan.streak[1]:
        amount -= plan.streak[2]
        if amount < 0:
            amount = 0
    return amount


def slow_bill(plan, state, use):
    return settle(plan, state, full_sum(plan, state, use) if use < 1000 else great_sum(plan, state, use))


def slow_after(plan, state, use):
    """Return the next state."""
    carried, busy, turn = state
    available = plan.included + carried
    carried = 0
    if use < available:
        carried = plan.carry if available - use > plan.carry else available - use
    if plan.streak is None or use < plan.streak[0]:
        busy = 0
    elif busy < plan.streak[1]:
        busy += 1
    return carried, busy, 0 if turn + 1 == len(plan.fees) else turn + 1


def slow_walk(plan, uses, state=(0, 0, 0)):
    """Return the list of the pairs of bill and next state."""
    rows = []
    for use in uses:
        rows.append((slow_bill(plan, state, use), slow_after(plan, state, use)))
        state = rows[-1][1]
    return rows


def slow_total(plan, uses, state=(0, 0, 0)):
    return sum(amount for amount, behind in slow_walk(plan, uses, state))


def slow_state(plan, uses, state=(0, 0, 0)):
    return slow_walk(plan, uses, state)[-1][1] if uses else state


def slow_lead(one, other, uses):
    return slow_total(one, uses) - slow_total(other, uses)


def slow_loss(plan, pairs):
    """Return the loss of a thrift history."""
    return slow_total(plan, [less for less, more in pairs]) - slow_total(plan, [more for less, more in pairs])


def all_states(plan):
    """Return the list of all states of the plan, reached or not (point 8)."""
    row = plan.streak[1] if plan.streak is not None else 0
    return list(itertools.product(range(plan.carry + 1), range(row + 1), range(len(plan.fees))))


def slow_states(plan, uses):
    """Return the ascending tuple of the states behind all histories of these uses."""
    found = {(0, 0, 0)}
    while True:
        more = found | {slow_after(plan, state, use) for state in found for use in uses}
        if more == found:
            return tuple(sorted(found))
        found = more


class Pairs:
    """Two plans side by side, with the difference of the bills and the next pair for each pair of states and use."""

    def __init__(self, one, other, uses):
        self.uses = list(uses)
        self.steps = {}
        ones, others = [
            {
                state: [(slow_bill(plan, state, use), slow_after(plan, state, use)) for use in self.uses]
                for state in all_states(plan)
            }
            for plan in (one, other)
        ]
        for state, beside in itertools.product(ones, others):
            self.steps[state, beside] = [
                (use, first - second, (behind, behind_too))
                for use, (first, behind), (second, behind_too) in zip(self.uses, ones[state], others[beside])
            ]

    def reached(self, start):
        """Return the list of the pairs behind all histories from this pair."""
        found, waiting = {start}, [start]
        while waiting:
            for use, gap, pair in self.steps[waiting.pop()]:
                if pair not in found:
                    found.add(pair)
                    waiting.append(pair)
        return sorted(found)

    def apart(self, start):
        """Return the parting history, or None: all histories, a length after the other."""
        seen, ways = {start}, {start: ()}
        while ways:
            parting = [
                (*way, use) for pair, way in ways.items() for use, gap, behind in self.steps[pair] if gap != 0
            ]
            if parting:
                return min(parting)
            longer = {}
            for pair, way in ways.items():
                for use, gap, behind in self.steps[pair]:
                    if behind not in seen and (behind not in longer or (*way, use) < longer[behind]):
                        longer[behind] = (*way, use)
            seen |= set(longer)
            ways = longer
        return None

    def lead(self, start=((0, 0, 0), (0, 0, 0))):
        """Return ("loop",), or ("number", AMOUNT, HISTORY): the best history to each pair, a length after the other."""
        many = len(self.reached(start))
        best = {start: (0, 0, ())}
        for length in range(many):
            longer = dict(best)
            for pair, (lost, periods, way) in best.items():
                for use, gap, behind in self.steps[pair]:
                    found = (lost - gap, periods + 1, (*way, use))
                    if behind not in longer or found < longer[behind]:
                        longer[behind] = found
            if longer == best:
                lost, periods, way = min(best.values())
                return ("number", -lost, way)
            best = longer
        # No walk without a circle is so long, so a circle improves something.
        return ("loop",)


class Thrifts(Pairs):
    """A plan beside itself; in place of a use each step has a pair (LESS, MORE), the best one to its pair of states."""

    def __init__(self, plan, uses):
        self.uses = sorted(uses)
        self.rows = {
            state: [(slow_bill(plan, state, use), slow_after(plan, state, use)) for use in self.uses]
            for state in all_states(plan)
        }
        self.steps = {}
        waiting = [((0, 0, 0), (0, 0, 0))]
        while waiting:
            pair = waiting.pop()
            if pair not in self.steps:
                self.steps[pair] = self.best_steps(*pair)
                waiting.extend(behind for label, gain, behind in self.steps[pair])

    def best_steps(self, state, beside):
        dearest, best = {}, {}
        for use, (amount, behind), (cost, behind_too) in zip(self.uses, self.rows[state], self.rows[beside]):
            if behind not in dearest or amount > dearest[behind][0]:
                dearest[behind] = (amount, use)
            for behind, (amount, less) in dearest.items():
                found = (cost - amount, (less, use))
                if found < best.get((behind, behind_too), (10 ** 50,)):
                    best[behind, behind_too] = found
        return [(label, -cost, pair) for pair, (cost, label) in best.items()]


def turning_uses(*plans):
    """Return the ascending list of all uses near which bills of these plans turn, each with its neighbours."""
    found = set(range(48))
    for plan in plans:
        amounts = [plan.least, plan.most, plan.streak and plan.streak[2]]
        for state, amount in itertools.product(all_states(plan), amounts):
            if amount is not None:
                low, high = 0, 10 ** 11
                while low < high:
                    middle = (low + high) // 2
                    if great_sum(plan, state, middle) < amount:
                        low = middle + 1
                    else:
                        high = middle
                found |= {use for use in range(low - 3, low + 4) if use >= 0}
    return sorted(found)


def is_plain(value):
    """Tell whether the value is made of tuples, strings, None and integers that are no truths."""
    if type(value) is tuple:
        return all([is_plain(part) for part in value])
    return value is None or type(value) in (int, str)
