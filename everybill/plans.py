"""Plans of charges (point 7)."""

from everybill.errors import InvalidCarry, InvalidFees, InvalidIncluded, InvalidLeast
from everybill.errors import InvalidMost, InvalidStreak, InvalidTiers
from everybill.limits import MOST_CARRY, MOST_FEES, MOST_FROM, MOST_INCLUDED
from everybill.limits import MOST_MONEY, MOST_ROW, MOST_STREAK_USE, MOST_TIERS
from everybill.texts import lines_of_form, read_form
from everybill.values import is_between, is_tuple_of


def are_fees(value):
    """Tell whether the value is valid as the fees of a plan."""
    if not is_tuple_of(value, 1, MOST_FEES):
        return False
    return all([is_between(fee, 0, MOST_MONEY) for fee in value])


def is_tier(value, lowest, highest):
    """Tell whether the value is a pair (FROM, PRICE) with a FROM from `lowest` to `highest`."""
    if not is_tuple_of(value, 2, 2):
        return False
    return is_between(value[0], lowest, highest) and is_between(value[1], 0, MOST_MONEY)


def check_tiers(tiers):
    """Raise InvalidTiers if the value is not valid as the tiers of a plan."""
    if not is_tuple_of(tiers, 1, MOST_TIERS):
        raise InvalidTiers(None)
    lowest = highest = 0
    for at, tier in enumerate(tiers):
        if not is_tier(tier, lowest, highest):
            raise InvalidTiers(at)
        lowest, highest = tier[0] + 1, MOST_FROM


def is_streak(value):
    """Tell whether the value is a tuple (USE, ROW, OFF) within the bounds."""
    if not is_tuple_of(value, 3, 3):
        return False
    use, row, off = value
    if not is_between(use, 1, MOST_STREAK_USE) or not is_between(row, 1, MOST_ROW):
        return False
    return is_between(off, 0, MOST_MONEY)


class Plan:
    """A plan of charges; it is equal to each plan with the same form."""

    def __init__(self, fees, tiers, *, included=0, carry=0, least=0, most=None, streak=None):
        if not are_fees(fees):
            raise InvalidFees(fees)
        check_tiers(tiers)
        if not is_between(included, 0, MOST_INCLUDED):
            raise InvalidIncluded(included)
        if not is_between(carry, 0, MOST_CARRY):
            raise InvalidCarry(carry)
        if not is_between(least, 0, MOST_MONEY):
            raise InvalidLeast(least)
        if most is not None and not is_between(most, least, MOST_MONEY):
            raise InvalidMost(most)
        if streak is not None and not is_streak(streak):
            raise InvalidStreak(streak)
        self.fees = fees
        self.tiers = tiers
        self.included = included
        self.carry = carry
        self.least = least
        self.most = most
        self.streak = streak
        self.form = (fees, tiers, included, carry, least, most, streak)

    @classmethod
    def read(cls, text):
        """Return the plan with this text."""
        fees, tiers, included, carry, least, most, streak = read_form(text)
        return cls(fees, tiers, included=included, carry=carry, least=least, most=most, streak=streak)

    def __str__(self):
        return "\n".join(lines_of_form(self.form))

    def __repr__(self):
        return f"Plan({len(self.fees)} fees, {len(self.tiers)} tiers)"

    def __eq__(self, other):
        return isinstance(other, Plan) and self.form == other.form

    def __ne__(self, other):
        return not self == other
