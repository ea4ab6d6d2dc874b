"""Histories of uses from a state, also as runs of many repetitions (points 10 and 11)."""

from everybill.charges import charge, successor
from everybill.checks import check_plan, check_runs, check_state, check_uses
from everybill.errors import InvalidUses
from everybill.limits import START


def bills(plan, uses, *, state=START):
    """Yield for each use the pair of its bill and the next state."""
    check_plan(plan)
    check_uses(uses)
    check_state(plan, state)
    for use in uses:
        amount = charge(plan, state, use)
        state = successor(plan, state, use)
        yield (amount, state)


def walked(plan, uses, state):
    """Return the total of these uses and the state behind them."""
    amount = 0
    for use in uses:
        amount += charge(plan, state, use)
        state = successor(plan, state, use)
    return amount, state


def repeated(plan, uses, state):
    """Repeat these uses until a state comes again.

    Return the list of the states behind 0, 1, 2 .. repetitions, each once, the list of the totals of so many
    repetitions, with one more total up to the state that came again, and the number of repetitions behind which
    that state came first.
    """
    places = {}
    totals = [0]
    while state not in places:
        places[state] = len(places)
        amount, state = walked(plan, uses, state)
        totals.append(totals[-1] + amount)
    return list(places), totals, places[state]


def run_through(plan, uses, times, state):
    """Return the total of so many repetitions of these uses and the state behind them."""
    reached, totals, first = repeated(plan, uses, state)
    if times < len(reached):
        return totals[times], reached[times]
    rounds, rest = divmod(times - first, len(reached) - first)
    return totals[first + rest] + rounds * (totals[-1] - totals[first]), reached[first + rest]


def checked_run_through(plan, runs, state):
    """Return the total of all runs and the state behind them, or raise the error of the first wrong parameter."""
    check_plan(plan)
    check_runs(runs)
    check_state(plan, state)
    amount = 0
    for uses, times in runs:
        more, state = run_through(plan, uses, times, state)
        amount += more
    return amount, state


def total(plan, runs, *, state=START):
    """Return the total of the history for which the runs stand."""
    return checked_run_through(plan, runs, state)[0]


def state_after(plan, runs, *, state=START):
    """Return the state behind the history for which the runs stand."""
    return checked_run_through(plan, runs, state)[1]


def long_run(plan, uses, *, state=START):
    """Return (FIRST, ROUND, GAIN) of these uses if they are repeated for ever."""
    check_plan(plan)
    check_uses(uses)
    if len(uses) == 0:
        raise InvalidUses(None)
    check_state(plan, state)
    reached, totals, first = repeated(plan, uses, state)
    return first, len(reached) - first, totals[-1] - totals[first]
