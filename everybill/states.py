"""The states of a plan, and which states of plans can be told apart by their bills (point 12)."""

from everybill.checks import check_plan, check_state
from everybill.limits import START
from everybill.pairs import explored
from everybill.pieces import pieces_by_state


def states(plan):
    """Return the ascending tuple of the states in which the plan can be behind some history."""
    check_plan(plan)
    pieces = pieces_by_state(plan)
    found = set()
    waiting = [START]
    while waiting:
        state = waiting.pop()
        if state not in found:
            found.add(state)
            waiting.extend([piece.state for piece in pieces[state]])
    return tuple(sorted(found))


def parting_use(stretch):
    """Return the least use of the stretch whose bills are different, or None if there is none."""
    if stretch.gap != 0:
        return stretch.first
    if stretch.step != 0 and stretch.first != stretch.last:
        return stretch.first + 1
    return None


def parting_lengths(table):
    """Return a dict with the length of the parting history of each pair that is apart."""
    lengths = {}
    found = [pair for pair in table if any([parting_use(stretch) is not None for stretch in table[pair]])]
    length = 1
    while found:
        for pair in found:
            lengths[pair] = length
        length += 1
        rest = [pair for pair in table if pair not in lengths]
        found = [pair for pair in rest if any([stretch.pair in lengths for stretch in table[pair]])]
    return lengths


def parting_history(table, pair):
    """Return the parting history of this pair, or None if it is alike."""
    lengths = parting_lengths(table)
    if pair not in lengths:
        return None
    history = []
    while lengths[pair] > 1:
        shorter = lengths[pair] - 1
        stretch = [row for row in table[pair] if lengths.get(row.pair) == shorter][0]
        history.append(stretch.first)
        pair = stretch.pair
    uses = [parting_use(row) for row in table[pair]]
    return (*history, [use for use in uses if use is not None][0])


def apart(one, other, *, state=START, other_state=START):
    """Return the parting history of both plans in these states, or None if they are alike."""
    check_plan(one)
    check_plan(other)
    check_state(one, state)
    check_state(other, other_state)
    pair = (state, other_state)
    return parting_history(explored(one, other, [pair]), pair)


def alike(one, other):
    """Tell whether both plans always bill alike from their starts."""
    return apart(one, other) is None


def classes(plan):
    """Return the ascending tuple of the classes of states that nobody can tell apart by their bills."""
    reached = states(plan)
    pairs = [(state, other) for state in reached for other in reached]
    parted = parting_lengths(explored(plan, plan, pairs))
    groups = [tuple([other for other in reached if (state, other) not in parted]) for state in reached]
    return tuple(sorted(set(groups)))
