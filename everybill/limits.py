"""The bounds of plans, runs and accounts, and the state in which every plan begins."""

MOST_FEES = 2
MOST_TIERS = 4
MOST_FROM = 12
MOST_INCLUDED = 12
MOST_CARRY = 3
MOST_ROW = 2
MOST_STREAK_USE = 16
MOST_MONEY = 10 ** 9
MOST_RUNS = 8
MOST_RUN_USES = 6
MOST_TIMES = 10 ** 18
MOST_PERIODS = 24
START = (0, 0, 0)
