"""The errors of the parameters that occur in several functions of the interface."""

from everybill.errors import InvalidAmount, InvalidBound, InvalidPeriod, InvalidRuns, InvalidState
from everybill.errors import InvalidUse, InvalidUses, NoPlans, NotAPlan
from everybill.limits import MOST_PERIODS, MOST_RUN_USES, MOST_RUNS, MOST_TIMES
from everybill.plans import Plan
from everybill.values import is_between, is_tuple_of, is_whole


def is_use(value):
    """Tell whether the value is the use of a period."""
    return is_whole(value) and value >= 0


def is_state(plan, value):
    """Tell whether the value is a state of this plan (point 8)."""
    if not is_tuple_of(value, 3, 3):
        return False
    carried, busy, turn = value
    row = 0 if plan.streak is None else plan.streak[1]
    return is_between(carried, 0, plan.carry) and is_between(busy, 0, row) and is_between(turn, 0, len(plan.fees) - 1)


def is_run(value):
    """Tell whether the value is a pair (USES, TIMES) of point 11."""
    if not is_tuple_of(value, 2, 2):
        return False
    uses, times = value
    if not is_tuple_of(uses, 1, MOST_RUN_USES) or not is_between(times, 0, MOST_TIMES):
        return False
    return all([is_use(use) for use in uses])


def check_plan(value):
    """Raise NotAPlan if the value is not a plan."""
    if not isinstance(value, Plan):
        raise NotAPlan(value)


def check_plans(values):
    """Raise NoPlans if there is no value, and NotAPlan for the first one that is not a plan."""
    if len(values) == 0:
        raise NoPlans()
    for value in values:
        check_plan(value)


def check_state(plan, value):
    """Raise InvalidState if the value is not a state of this plan."""
    if not is_state(plan, value):
        raise InvalidState(value)


def check_use(value):
    """Raise InvalidUse if the value is not a use."""
    if not is_use(value):
        raise InvalidUse(value)


def check_period(plan, state, use):
    """Raise the error of the first of these parameters of one period that is wrong."""
    check_plan(plan)
    check_state(plan, state)
    check_use(use)


def check_uses(value):
    """Raise InvalidUses if the value is not a tuple of uses."""
    if not isinstance(value, tuple):
        raise InvalidUses(None)
    for at, use in enumerate(value):
        if not is_use(use):
            raise InvalidUses(at)


def check_runs(value):
    """Raise InvalidRuns if the value is not a tuple of runs."""
    if not is_tuple_of(value, 0, MOST_RUNS):
        raise InvalidRuns(None)
    for at, run in enumerate(value):
        if not is_run(run):
            raise InvalidRuns(at)


def check_amount(value):
    """Raise InvalidAmount if the value is not an integer."""
    if not is_whole(value):
        raise InvalidAmount(value)


def check_bound(value):
    """Raise InvalidBound if the value is neither None nor a use."""
    if value is not None and not is_use(value):
        raise InvalidBound(value)


def check_account_period(value):
    """Raise InvalidPeriod if the value is not the number of a period of an account."""
    if not is_between(value, 0, MOST_PERIODS - 1):
        raise InvalidPeriod(value)
