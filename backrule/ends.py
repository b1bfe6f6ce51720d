"""The ends of pieces, and which pieces no row comes to."""

from backrule.rows import need_piece
from backrule.rules import need_rule
from backrule.steps import steps_of


def ends_of(rule, piece):
    """The last wide - 1 cells of a piece's origins, as numbers."""
    need_piece(rule, piece)
    steps = steps_of(rule)
    ends = _all_rows(steps)
    for sign in piece:
        ends = _ends_on(steps, ends, sign)
    return ends


def missing(rule):
    """The least one of the shortest pieces that no row comes to; None without one."""
    need_rule(rule)
    return _first_pieces(rule).get(())


def all_ends(rule):
    """All tuples of ends that there are, that of no cells first; None where a piece is missing."""
    need_rule(rule)
    found = list(_first_pieces(rule))
    if () in found:
        return None
    return found


def _first_pieces(rule):
    # For each tuple of ends the least one of the shortest pieces that have
    # them. Pieces are made by going on from these alone: what can stand behind
    # a piece hangs on its ends, so no shorter or lesser one is passed over.
    steps = steps_of(rule)
    start = _all_rows(steps)
    found = {start: []}
    fresh = [start]
    while len(fresh) > 0:
        further = []
        for ends in fresh:
            for sign in range(rule[0]):
                after = _ends_on(steps, ends, sign)
                if after not in found:
                    found[after] = found[ends] + [sign]
                    further.append(after)
        fresh = further
    return found


def _all_rows(steps):
    return tuple(range(len(steps)))


def _ends_on(steps, ends, sign):
    # The ends with one sign more, rising.
    return tuple(sorted({after for end in ends for _, told, after in steps[end] if told == sign}))
