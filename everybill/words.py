"""Numbers that are written as words of a line."""

MOST_DIGITS = 15


def number_of(word):
    """Return the integer that Python writes as this word, or None if there is none of so few digits."""
    digits = word.removeprefix("-")
    # Without isascii, isdigit would also take digits of other scripts.
    if not digits.isascii() or not digits.isdigit() or len(digits) > MOST_DIGITS:
        return None
    if digits[0] == "0" and word != "0":
        return None
    return int(word)
