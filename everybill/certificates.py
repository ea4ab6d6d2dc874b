"""Claims of what is told about all histories, with certificates that the checker accepts."""

from everybill.choosing import best_rows, cheapest
from everybill.leads import lead, lead_graph
from everybill.limits import START
from everybill.pairs import explored
from everybill.states import apart
from everybill.thrift import loss_graph, thrift
from everybill.walks import greatest_gains

STARTS = (START, START)


def table_of(graph, amount):
    """Return the table that shows that no walk from the starts through this graph gains more than the amount.

    The number of a pair is what may have been gained up to it: what is left of the amount by the best way from there.
    """
    gains = greatest_gains(graph)
    return tuple(sorted([(*pair, amount - gain) for pair, gain in gains.items()]))


def certify_lead(one, other, *, most_use=None):
    """Return the pairs (CLAIM, CERTIFICATE) that show what `lead` tells."""
    found = lead(one, other, most_use=most_use)
    if found[0] != "number":
        return (((found[0], one.form, other.form, found[1], found[2]), None),)
    word, amount, history = found
    table = table_of(lead_graph(explored(one, other, [STARTS], most_use)), amount)
    return (
        (("ahead", one.form, other.form, history, amount), None),
        (("never", one.form, other.form, most_use, amount), table),
    )


def certify_alike(one, other):
    """Return the pair (CLAIM, CERTIFICATE) that shows that both plans always bill alike, or what parts them."""
    history = apart(one, other)
    if history is not None:
        return (("apart", one.form, other.form, history), None)
    return (("alike", one.form, other.form), tuple(sorted(explored(one, other, [STARTS]))))


def certify_thrift(plan, *, most_use=None):
    """Return the pairs (CLAIM, CERTIFICATE) that show what `thrift` tells."""
    found = thrift(plan, most_use=most_use)
    if found[0] == "loop":
        return ((("losing", plan.form, found[1], found[2]), None),)
    word, amount, pairs = found
    return (
        (("lost", plan.form, pairs, amount), None),
        (("thrifty", plan.form, most_use, amount), table_of(loss_graph(plan, most_use), amount)),
    )


def certify_cheapest(uses, *plans, change=0):
    """Return the pair (CLAIM, CERTIFICATE) that shows that no row costs less than the one of `cheapest`."""
    cost, row = cheapest(uses, *plans, change=change)
    table = tuple([tuple([pair[0] for pair in pairs]) for pairs in best_rows(uses, plans, change)])
    return (("cheapest", tuple([plan.form for plan in plans]), uses, change, row), table)
