"""The origins of a piece: how many there are, and the least one."""

from backrule.rows import need_piece
from backrule.rules import cells_of
from backrule.steps import steps_of


def count_of(rule, piece):
    """How many pieces of wide - 1 cells more come to a piece."""
    need_piece(rule, piece)
    steps = steps_of(rule)
    counts = [1] * len(steps)
    for sign in piece:
        counts = _counts_on(steps, counts, sign)
    return sum(counts)


def origin_of(rule, piece):
    """The least piece that comes to a piece; None where it is missing."""
    need_piece(rule, piece)
    steps = steps_of(rule)
    able = _able_from(steps, piece)
    starts = [end for end in range(len(steps)) if able[0][end]]
    if len(starts) == 0:
        return None
    end = starts[0]
    origin = cells_of(rule[0], rule[1] - 1, end)
    for at, sign in enumerate(piece):
        cell, end = _least_step(steps[end], sign, able[at + 1])
        origin.append(cell)
    return origin


def _counts_on(steps, counts, sign):
    # How many origins end in each row, of how many did so before one sign more.
    after_sign = [0] * len(counts)
    for end, many in enumerate(counts):
        for _, told, after in steps[end]:
            if told == sign:
                after_sign[after] += many
    return after_sign


def _able_from(steps, piece):
    # For each place of the piece, and for the one behind it, which rows can go
    # on so that the signs from that place on come of it.
    able = [[True] * len(steps)]
    for sign in reversed(piece):
        able.append(_able_before(steps, able[-1], sign))
    return able[::-1]


def _able_before(steps, able, sign):
    return [any([told == sign and able[after] for _, told, after in row]) for row in steps]


def _least_step(row, sign, able):
    # The least cell next that tells the sign and leaves the rest of the piece to come.
    fitting = [(cell, after) for cell, told, after in row if told == sign and able[after]]
    return fitting[0]
