"""The text of a plan (point 17), written from the plan's form and read back into it."""

from everybill.errors import InvalidText
from everybill.limits import MOST_FEES, MOST_TIERS
from everybill.words import number_of

# The lines behind the tiers that have one number, in their order, each with the number for which no line stands.
AMOUNTS = (("included", 0), ("carry", 0), ("least", 0), ("most", None))


def line_of(word, numbers):
    """Return the line of this word and these numbers."""
    return " ".join([word, *[str(number) for number in numbers]])


def lines_of_form(form):
    """Return the list of the lines of the plan with this form."""
    fees, tiers, *amounts, streak = form
    lines = [line_of("fees", fees)]
    for tier in tiers:
        lines.append(line_of("tier", tier))
    for (word, absent), amount in zip(AMOUNTS, amounts):
        if amount != absent:
            lines.append(line_of(word, (amount,)))
    if streak is not None:
        lines.append(line_of("streak", streak))
    return lines


def numbers_at(lines, at, word, fewest, most):
    """Return the numbers of the line with this index, or None if it is no line of this word and so many numbers."""
    if at == len(lines):
        return None
    words = lines[at].split(" ")
    numbers = [number_of(part) for part in words[1:]]
    if words[0] != word or None in numbers or not fewest <= len(numbers) <= most:
        return None
    return tuple(numbers)


def read_tiers(lines):
    """Return the list of the pairs of the `tier` lines that stand behind the first line."""
    tiers = []
    for at in range(1, 1 + MOST_TIERS):
        tier = numbers_at(lines, at, "tier", 2, 2)
        if tier is None:
            break
        tiers.append(tier)
    return tiers


def read_rest(lines, at):
    """Return the list of the five parts behind the tiers; their lines begin at this index and go to the end."""
    parts = []
    for word, absent in AMOUNTS:
        numbers = numbers_at(lines, at, word, 1, 1)
        # A line that writes the absent number is left standing, so it is the first wrong line below.
        if numbers is None or numbers[0] == absent:
            parts.append(absent)
        else:
            parts.append(numbers[0])
            at += 1
    streak = numbers_at(lines, at, "streak", 3, 3)
    parts.append(streak)
    if streak is not None:
        at += 1
    if at < len(lines):
        raise InvalidText(at)
    return parts


def read_form(text):
    """Return the form that this text writes, whether or not its numbers fit a plan."""
    if not isinstance(text, str):
        raise InvalidText(None)
    lines = text.split("\n")
    fees = numbers_at(lines, 0, "fees", 1, MOST_FEES)
    if fees is None:
        raise InvalidText(0)
    tiers = read_tiers(lines)
    if len(tiers) == 0:
        # Index 1 is the number of lines, too, if the text ends here.
        raise InvalidText(1)
    return (fees, tuple(tiers), *read_rest(lines, 1 + len(tiers)))
