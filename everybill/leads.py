"""How much one plan can ever come to cost more than another one (point 13)."""

from everybill.checks import check_amount, check_bound, check_plan, check_plans
from everybill.limits import START
from everybill.pairs import explored
from everybill.walks import best_steps, greatest_walk, way_to


def best_step(stretch):
    """Return the step by the least use of the stretch that adds most to the lead.

    Where uses without end add more and more, it is just the first one; there is a ray then, which needs no more.
    """
    if stretch.step <= 0 or stretch.last is None:
        return (stretch.first, stretch.gap, stretch.pair)
    return (stretch.last, stretch.gap + (stretch.last - stretch.first) * stretch.step, stretch.pair)


def lead_graph(table):
    """Return a dict with the best steps of each pair of states of this table."""
    return {pair: best_steps([best_step(stretch) for stretch in table[pair]]) for pair in table}


def lead(one, other, *, most_use=None):
    """Decide by how much one plan can lead over the other one, for all uses or for those up to a bound."""
    check_plan(one)
    check_plan(other)
    check_bound(most_use)
    start = (START, START)
    table = explored(one, other, [start], most_use)
    graph = lead_graph(table)
    for pair, rows in table.items():
        if rows[-1].last is None and rows[-1].step > 0:
            return ("ray", way_to(graph, start, pair), rows[-1].first)
    return greatest_walk(graph, start)


def never_ahead(one, other, by, *, most_use=None):
    """Tell whether no history has a lead of one plan over the other one that is greater than `by`."""
    check_plan(one)
    check_plan(other)
    check_amount(by)
    check_bound(most_use)
    found = lead(one, other, most_use=most_use)
    return found[0] == "number" and found[1] <= by


def is_needless(never, at):
    """Tell whether nobody needs the plan with this index.

    `never` has, for each pair of different indexes, whether the first plan is never ahead of the second one.
    """
    cheaper = [one for one, other in never if other == at and never[(one, other)]]
    return any([one < at or not never[(at, one)] for one in cheaper])


def needless(*plans):
    """Return the ascending tuple of the indexes of the plans that nobody needs."""
    check_plans(plans)
    never = {
        (one, other): never_ahead(plans[one], plans[other], 0)
        for one in range(len(plans))
        for other in range(len(plans))
        if one != other
    }
    return tuple([at for at in range(len(plans)) if is_needless(never, at)])
