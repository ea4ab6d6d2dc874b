"""The errors of the program: wrong values stand below FormError, wrong moments below StateError.

None of them stands below another one, so that catching one of them never catches a second one.
"""


class FormError(ValueError):
    """A value that was passed does not have the required form."""


class InvalidFees(FormError):
    """The fees are not a tuple of one or two amounts within the bounds."""

    def __init__(self, value):
        self.value = value


class InvalidIncluded(FormError):
    """The number of free units is not an integer within the bounds."""

    def __init__(self, value):
        self.value = value


class InvalidCarry(FormError):
    """The number of units carried on is not an integer within the bounds."""

    def __init__(self, value):
        self.value = value


class InvalidLeast(FormError):
    """The least bill is not an integer within the bounds."""

    def __init__(self, value):
        self.value = value


class InvalidMost(FormError):
    """The greatest bill is neither None nor an integer from the least bill on within the bounds."""

    def __init__(self, value):
        self.value = value


class InvalidStreak(FormError):
    """The streak is neither None nor a tuple of three integers within the bounds."""

    def __init__(self, value):
        self.value = value


class NotAPlan(FormError):
    """A plan was required."""

    def __init__(self, value):
        self.value = value


class InvalidState(FormError):
    """The value is not a state of the plan in question."""

    def __init__(self, value):
        self.value = value


class InvalidUse(FormError):
    """The use is not an integer from 0 on."""

    def __init__(self, value):
        self.value = value


class InvalidBound(FormError):
    """The bound of uses is neither None nor an integer from 0 on."""

    def __init__(self, value):
        self.value = value


class InvalidAmount(FormError):
    """The amount is not an integer of the required kind."""

    def __init__(self, value):
        self.value = value


class InvalidPeriod(FormError):
    """The period is not an integer from 0 to the last period."""

    def __init__(self, value):
        self.value = value


class InvalidUnits(FormError):
    """The units are not an integer."""

    def __init__(self, value):
        self.value = value


class InvalidLine(FormError):
    """The line is none that the console knows."""

    def __init__(self, value):
        self.value = value


class InvalidTiers(FormError):
    """The tier with this index is wrong, or the tiers as a whole if it is None."""

    def __init__(self, index):
        self.index = index


class InvalidUses(FormError):
    """The use with this index is wrong, or the uses as a whole if it is None."""

    def __init__(self, index):
        self.index = index


class InvalidRuns(FormError):
    """The run with this index is wrong, or the runs as a whole if it is None."""

    def __init__(self, index):
        self.index = index


class InvalidRow(FormError):
    """The row of plans is wrong at this index, or as a whole if it is None."""

    def __init__(self, index):
        self.index = index


class InvalidDeed(FormError):
    """The deed with this index is wrong, or what was passed as a whole if it is None."""

    def __init__(self, index):
        self.index = index


class InvalidText(FormError):
    """The line with this index is wrong or missing, or the text is no string if it is None."""

    def __init__(self, line):
        self.line = line


class StateError(LookupError):
    """The values have their forms, but what was asked for does not exist now."""


class NoPlans(StateError):
    """At least one plan was required."""


class NothingToSend(StateError):
    """All periods of the account have been sent."""


class NothingToUndo(StateError):
    """The log of the account is empty."""


class NoUse(StateError):
    """No use has a bill of at most this amount."""

    def __init__(self, amount):
        self.amount = amount


class NegativeUse(StateError):
    """The period would have this use, which is less than 0."""

    def __init__(self, use):
        self.use = use


class OverLimit(StateError):
    """This is the first period whose bill would rise above the limit."""

    def __init__(self, period):
        self.period = period
