"""What a value is, whatever was passed (point 3)."""


def is_whole(value):
    """Tell whether the value is an integer."""
    # Python counts True and False among the integers, the document does not.
    return isinstance(value, int) and not isinstance(value, bool)


def is_between(value, least, most):
    """Tell whether the value is an integer from `least` to `most`."""
    return is_whole(value) and least <= value <= most


def is_tuple_of(value, fewest, most):
    """Tell whether the value is a tuple with a length from `fewest` to `most`, whatever is in it."""
    return isinstance(value, tuple) and fewest <= len(value) <= most
