"""Plans made for the tests, always the same ones."""

import random

from everybill.plans import Plan

NAMES = ("fees", "tiers", "included", "carry", "least", "most", "streak")
MONEY = 10 ** 9
# Every bill of a small plan has taken its last turn ahead of this use.
FAR_ENOUGH = 60


def small_plan(chooser, highest=8):
    """Return a plan with such small amounts that its bills turn early and often come out equal."""
    starts = [0, *sorted(chooser.sample(range(1, 13), chooser.randint(0, 3)))]
    least = chooser.choice((0, 0, chooser.randint(0, highest)))
    return Plan(
        tuple(chooser.randint(0, highest) for fee in range(chooser.randint(1, 2))),
        tuple((start, chooser.choice((0, 0, 1, 1, 2, 3, chooser.randint(0, highest)))) for start in starts),
        included=chooser.choice((0, chooser.randint(0, 12))),
        carry=chooser.randint(0, 2),
        least=least,
        most=chooser.choice((None, None, chooser.randint(least, highest + 4))),
        streak=chooser.choice((None, (chooser.randint(1, 16), chooser.randint(1, 2), chooser.randint(0, highest)))),
    )


def narrow_plan(chooser):
    """Return a plan with narrow tiers of uneven prices and three carried units, whose states turn one inside the other."""
    first = chooser.randint(1, 5)
    starts = (0, first, first + 1, first + chooser.randint(2, 4))
    least = chooser.choice((0, chooser.randint(0, 30)))
    return Plan(
        tuple(chooser.randint(0, 9) for fee in range(chooser.randint(1, 2))),
        tuple((start, chooser.choice((0, 0, 1, 5, 12))) for start in starts),
        included=chooser.randint(1, 6),
        carry=3,
        least=least,
        most=chooser.choice((None, None, chooser.randint(least, 40))),
        streak=chooser.choice((None, (chooser.randint(1, 12), chooser.randint(1, 2), chooser.randint(0, 20)))),
    )


def great_amount(chooser):
    return chooser.choice((0, 1, 2, MONEY, MONEY - 1, MONEY // 2, chooser.randint(0, MONEY)))


def great_plan(chooser):
    """Return a plan some of whose amounts are great, so that its bills may turn at uses near 10 ** 9."""
    starts = [0, *sorted(chooser.sample(range(1, 13), chooser.randint(0, 3)))]
    least = chooser.choice((0, great_amount(chooser)))
    return Plan(
        tuple(great_amount(chooser) for fee in range(chooser.randint(1, 2))),
        tuple((start, chooser.choice((0, 1, 1, 2, 3, great_amount(chooser)))) for start in starts),
        included=chooser.choice((0, chooser.randint(0, 12))),
        carry=chooser.randint(0, 1),
        least=least,
        most=chooser.choice((None, MONEY, chooser.randint(least, MONEY))),
        streak=chooser.choice((None, (chooser.randint(1, 16), chooser.randint(1, 2), great_amount(chooser)))),
    )


def with_parts(plan, **parts):
    """Return the plan with these parts in place of its own."""
    return Plan(**{**dict(zip(NAMES, plan.form)), **parts})


def near_plan(chooser, plan, other):
    """Return a plan that differs from this one in few parts, most of which are those of the other one."""
    parts = {}
    for name in chooser.sample(NAMES, chooser.randint(1, 2)):
        parts[name] = getattr(other, name)
    if chooser.random() < 0.5:
        # Fees with nearly the same sum keep loops rare.
        first = plan.fees[0]
        shift = min(first, chooser.randint(0, 3))
        parts["fees"] = (plan.fees[::-1], (first - shift, plan.fees[-1] + shift))[chooser.randint(0, 1)]
    try:
        return with_parts(plan, **parts)
    except ValueError:
        return plan


def small_plans(seed, many):
    chooser = random.Random(seed)
    return [small_plan(chooser) for plan in range(many)]


def narrow_plans(seed, many):
    chooser = random.Random(seed)
    return [narrow_plan(chooser) for plan in range(many)]


def great_plans(seed, many):
    chooser = random.Random(seed)
    return [great_plan(chooser) for plan in range(many)]


def pairs_of(seed, many, maker):
    """Return pairs of plans, some of them near to each other."""
    chooser = random.Random(seed)
    pairs = []
    for at in range(many):
        one, other = maker(chooser), maker(chooser)
        pairs.append((one, other if at % 4 == 0 else near_plan(chooser, one, other)))
    return pairs


def told_otherwise():
    """Return pairs of plans that always bill alike, although their forms differ."""
    plan = Plan((60,), ((0, 25), (4, 10)), included=3, carry=2, streak=(8, 2, 15))
    return [
        (plan, with_parts(plan, fees=(60, 60))),
        (plan, with_parts(plan, tiers=((0, 25), (2, 25), (4, 10), (9, 10)))),
        (plan, with_parts(plan, least=45)),
        (with_parts(plan, least=60), with_parts(plan, fees=(0,), tiers=((0, 85), (1, 25), (4, 10)), least=60)),
        (with_parts(plan, streak=None), with_parts(plan, streak=(8, 2, 0))),
        (with_parts(plan, most=0), with_parts(plan, most=0, included=0, carry=0, streak=None)),
        (with_parts(plan, most=60, streak=None), Plan((60,), ((0, 0),))),
        (Plan((MONEY,), ((0, 0),)), Plan((MONEY, 5), ((0, 1),), least=MONEY, most=MONEY)),
        (Plan((5,), ((0, 0),), included=3, carry=1), Plan((5,), ((0, 0),))),
        (Plan((5, 5), ((0, 1),), streak=(3, 1, MONEY)), Plan((5, 5), ((0, 1),), streak=(3, 1, MONEY), least=5)),
        (Plan((0,), ((0, 0),), streak=(3, 1, MONEY)), Plan((0,), ((0, 0),), most=0)),
    ]


# The plans within the limits that have the most states and turns.
WIDEST = [
    Plan(
        (MONEY, 1), ((0, 1), (1, MONEY), (2, 1), (12, price)), included=included, carry=3, least=least, most=most,
        streak=(use, 2, off),
    )
    for included, least, most, use, off, price in (
        (3, MONEY // 2, None, 2, MONEY, 1),
        (2, 5, MONEY, 3, MONEY - 1, 1),
        (12, MONEY - 7, MONEY, 8, MONEY // 3, 1),
        (8, 0, None, 8, 1, MONEY),
    )
]
