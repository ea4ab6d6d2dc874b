"""Two plans side by side: what the same uses do to the pairs of their states."""

from everybill.pieces import pieces_by_state


class Stretch:
    """Uses that change the lead evenly: those from `first` to `last`, or all from `first` on if `last` is None.

    The use `first` adds `gap` to the lead of one plan over the other one, each unit more adds `step` to that, and all
    of them lead to this next pair of states.
    """

    def __init__(self, first, last, gap, step, pair):
        self.first = first
        self.last = last
        self.gap = gap
        self.step = step
        self.pair = pair


def joined(piece, other, first, last):
    """Return the stretch of these uses, which lie in both pieces."""
    gap = piece.bill_of(first) - other.bill_of(first)
    return Stretch(first, last, gap, piece.step - other.step, (piece.state, other.state))


def moved(pieces, at, first):
    """Return the index of the piece that has this use, which is one of this index or begins the next one."""
    if at + 1 < len(pieces) and pieces[at + 1].first == first:
        return at + 1
    return at


def stretches(pieces, others):
    """Return the ascending list of the stretches of two states with these pieces, which end with the same use."""
    firsts = sorted(set([piece.first for piece in [*pieces, *others]]))
    lasts = [*[first - 1 for first in firsts[1:]], pieces[-1].last]
    rows = []
    at = beside = 0
    for first, last in zip(firsts, lasts):
        at = moved(pieces, at, first)
        beside = moved(others, beside, first)
        rows.append(joined(pieces[at], others[beside], first, last))
    return rows


def explored(one, other, starts, most_use=None):
    """Return a dict with the stretches of each pair of states that a history reaches from one of these pairs."""
    pieces, others = pieces_by_state(one, most_use), pieces_by_state(other, most_use)
    table = {}
    waiting = list(starts)
    while waiting:
        pair = waiting.pop()
        if pair not in table:
            table[pair] = stretches(pieces[pair[0]], others[pair[1]])
            waiting.extend([stretch.pair for stretch in table[pair] if stretch.pair not in table])
    return table
