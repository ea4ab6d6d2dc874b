"""Whether using less can ever cost more in total, and how much more (point 14)."""

from everybill.checks import check_bound, check_plan
from everybill.limits import START
from everybill.pieces import pieces_by_state
from everybill.walks import best_steps, greatest_walk


def best_step(piece, beside):
    """Return the step that loses most by a LESS of the one piece and a MORE of the other one, by the least such pair.

    Some LESS must be at most some MORE. A greater LESS may only lose more up to a use at which one of the pieces begins
    or ends: a greater MORE never loses more, so MORE is the least one, and both grow evenly between such uses. Where
    both pieces have no end, both grow by the same, as all states of a plan do behind all turns.
    """
    marks = [piece.first, beside.first, piece.last, beside.last]
    steps = []
    for less in [mark for mark in marks if mark is not None and mark >= piece.first]:
        if (piece.last is None or less <= piece.last) and (beside.last is None or less <= beside.last):
            more = max(less, beside.first)
            steps.append((beside.bill_of(more) - piece.bill_of(less), (less, more)))
    cost, label = min(steps)
    return (label, -cost, (piece.state, beside.state))


def steps_between(pieces, others):
    """Return the list of the best steps of LESS in one state and MORE in another one, with these pieces."""
    return best_steps([
        best_step(piece, beside)
        for piece in pieces
        for beside in others
        if beside.last is None or piece.first <= beside.last
    ])


def loss_graph(plan, most_use):
    """Return a dict with the best steps of each pair of states that a thrift history reaches."""
    pieces = pieces_by_state(plan, most_use)
    graph = {}
    waiting = [(START, START)]
    while waiting:
        pair = waiting.pop()
        if pair not in graph:
            graph[pair] = steps_between(pieces[pair[0]], pieces[pair[1]])
            waiting.extend([step[2] for step in graph[pair] if step[2] not in graph])
    return graph


def thrift(plan, *, most_use=None):
    """Decide how much more using less can cost in total, for all uses or for those up to a bound."""
    check_plan(plan)
    check_bound(most_use)
    return greatest_walk(loss_graph(plan, most_use), (START, START))


def is_thrifty(plan):
    """Tell whether using less never costs more in total."""
    found = thrift(plan)
    return found[0] == "number" and found[1] == 0
