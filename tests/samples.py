"""Values of every kind that may be passed (point 5), and plans and helpers for the tests."""

from everybill.errors import InvalidFees, NothingToSend
from everybill.plans import Plan

FLEX = Plan((60,), ((0, 25), (4, 10)), included=3, carry=2, streak=(8, 2, 15))
PLAIN = Plan((120,), ((0, 10),))
FULL = Plan((60, 40), ((0, 25), (4, 10), (9, 3), (12, 0)), included=12, carry=3, least=70, most=900, streak=(16, 1, 30))


def nested(kind, depth):
    """Return an empty value of this kind inside so many others of it."""
    value = kind()
    for level in range(depth):
        value = {level: value} if kind is dict else kind([value])
    return value


INTEGERS = (0, 1, -1, 3, 13, 10 ** 9, 10 ** 9 + 1, -(10 ** 9), 10 ** 40 - 1, 1 - 10 ** 40)
TRUTHS = (True, False)
STRINGS = ("", "0", "1", "fees 60", "fees 60\ntier 0 25", " ~\n", "x" * 5000)
TUPLES = (
    (), (0,), (1, 2), (60, True), (8, 2, 15), ((0, 25),), ((0, 25), (4, 10)), (None,), ("a", "b"), nested(tuple, 29)
)
LISTS = ([], [60], [0, 25], [8, 2, 15], [(0, 25)], [[0, 25]], nested(list, 29))
DICTS = ({}, {0: 25}, {"fees": (60,)}, {(0, 25): [None]}, nested(dict, 29))
OBJECTS = (FLEX, PLAIN, InvalidFees(5), NothingToSend())

SAMPLES = (None, *TRUTHS, *INTEGERS, *STRINGS, *TUPLES, *LISTS, *DICTS, *OBJECTS)


def is_integer(value):
    """Tell whether the value is an integer by the words of point 3."""
    return type(value) is int


def raised(error, call, *given, **named):
    """Return the error of this very class that the call raises; fail if it raises none or another one."""
    try:
        result = call(*given, **named)
    except Exception as caught:
        if type(caught) is error:
            return caught
        raise AssertionError(f"{type(caught).__name__} {vars(caught)} instead of {error.__name__}") from caught
    raise AssertionError(f"no {error.__name__}, but {result!r}")
