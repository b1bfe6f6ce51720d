"""Webs: two rows side by side that come to the same; twins and rings are ways in them."""

from backrule.rules import cells_of, need_rule
from backrule.steps import steps_of


def twins(rule):
    """Two twins of as few cells as any; None where the rule has none."""
    need_rule(rule)
    web = web_of(rule)
    way = _way_round(web, [pair for pair in web if pair[0] == pair[1]])
    if way is None:
        return None
    start, one, other = way
    ahead = cells_of(rule[0], rule[1] - 1, start[0])
    return (ahead + one, ahead + other)


def rings(rule):
    """Two unlike rings of as few cells as any that come to one ring; None without any."""
    need_rule(rule)
    web = web_of(rule)
    ways = [_way_round(web, [pair]) for pair in web]
    found = [way for way in ways if way is not None]
    if len(found) == 0:
        return None
    _, one, other = min(found, key=lambda way: len(way[1]))
    return (one, other)


def web_of(rule):
    """A dict of the steps that each pair of rows of wide - 1 cells takes at once.

    Such a step is a tuple (cell, mate, after): the cell that stands next in one
    row, the one that stands next in the other, of which the same sign comes,
    and the pair of rows after it.
    """
    steps = steps_of(rule)
    ends = range(len(steps))
    return {(one, other): _steps_at_once(steps[one], steps[other]) for one in ends for other in ends}


def _steps_at_once(row, beside):
    return [
        (cell, mate, (after, mate_after))
        for cell, sign, after in row
        for mate, mate_sign, mate_after in beside
        if sign == mate_sign
    ]


def _way_round(web, pairs):
    # A shortest way from one of these pairs, first by two unlike cells, to one
    # of these pairs again: a tuple of the first pair and of both rows' cells.
    came = {}
    unlike = {pair: [step for step in web[pair] if step[0] != step[1]] for pair in pairs}
    fresh = _further(unlike, pairs, came)
    while len(fresh) > 0:
        for pair in fresh:
            if pair in pairs:
                return _way_to(came, pairs, pair)
        fresh = _further(web, fresh, came)
    return None


def _further(web, pairs, came):
    # The pairs that one step more comes to first; from where it does is put down in came.
    fresh = []
    for pair in pairs:
        for cell, mate, after in web[pair]:
            if after not in came:
                came[after] = (pair, cell, mate)
                fresh.append(after)
    return fresh


def _way_to(came, pairs, last):
    pair, cell, mate = came[last]
    one = [cell]
    other = [mate]
    while pair not in pairs:
        pair, cell, mate = came[pair]
        one.append(cell)
        other.append(mate)
    return (pair, one[::-1], other[::-1])
