"""From a bill back to the uses that have it."""

from everybill.checks import check_amount, check_plan, check_state
from everybill.errors import NoUse
from everybill.pieces import pieces_of


def first_billed(plan, state, amount):
    """Return the least use whose bill is at least this amount, or None if there is none."""
    pieces = pieces_of(plan, state)
    below = [piece for piece in pieces if piece.bill < amount]
    if len(below) == 0:
        return 0
    # Bills never fall, so this use lies within the last piece that begins below the amount, or it begins the next one.
    uses = [piece.first for piece in pieces[len(below):len(below) + 1]]
    piece = below[-1]
    if piece.step > 0:
        uses.append(piece.first - (piece.bill - amount) // piece.step)
    return min(uses, default=None)


def check_question(plan, state, amount):
    """Raise the error of the first of these parameters that is wrong."""
    check_plan(plan)
    check_state(plan, state)
    check_amount(amount)


def uses_for(plan, state, amount):
    """Return the least and the greatest use whose bill is this amount, or None if there is none."""
    check_question(plan, state, amount)
    first, behind = first_billed(plan, state, amount), first_billed(plan, state, amount + 1)
    if first == behind:
        return None
    return first, None if behind is None else behind - 1


def greatest_use(plan, state, amount):
    """Return the greatest use whose bill is at most this amount, or None if every use has such a bill."""
    check_question(plan, state, amount)
    behind = first_billed(plan, state, amount + 1)
    if behind is None:
        return None
    if behind == 0:
        raise NoUse(amount)
    return behind - 1
