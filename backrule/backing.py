"""Rules turned back: by how many cells before and behind, and the rings and pieces that come of it."""

from backrule.errors import BadRow, NoBack
from backrule.origins import origin_of
from backrule.rows import need_piece, need_ring
from backrule.rules import need_rule
from backrule.webs import web_of


def bounds(rule):
    """The tuple (before, behind) by which the rule is turned back; None where it is not."""
    need_rule(rule)
    web = web_of(rule)
    endless = len(web)
    unlike = _unlike_steps(web)
    best = None
    for before in range(endless + 1):
        behind = max([0] + [onward + 1 for inward, onward in unlike if inward >= before])
        if behind <= endless and (best is None or before + behind < best[0] + best[1]):
            best = (before, behind)
    return best


def ring_back(rule, ring):
    """The ring that comes to a ring."""
    need_ring(rule, ring)
    before, behind = _need_bounds(rule)
    many = len(ring)
    # A piece tells of the cell before + wide - 1 places on from its own first
    # place. So the row begins that far ahead of the ring's first cell, which is
    # then the first one that is told.
    start = -before - (rule[1] - 1)
    row = [ring[at % many] for at in range(start, start + before + many + behind)]
    return _told_back(rule, row, before, behind)


def piece_back(rule, piece):
    """The signs that the pieces of before + 1 + behind cells in a piece tell, in order."""
    need_piece(rule, piece)
    before, behind = _need_bounds(rule)
    if len(piece) < before + 1 + behind:
        raise BadRow("this piece has too few cells")
    return _told_back(rule, piece, before, behind)


def _need_bounds(rule):
    found = bounds(rule)
    if found is None:
        raise NoBack("this rule is not turned back")
    return found


def _told_back(rule, piece, before, behind):
    # Each origin of the piece holds an origin of every piece in it, and by the
    # bounds all of these have the same signs at the places that are told. No
    # piece of a rule that is turned back is missing, so there is one.
    origin = origin_of(rule, piece)
    return origin[before + rule[1] - 1:len(origin) - behind]


def _unlike_steps(web):
    # For each step in the web by two unlike cells, how many steps can stand
    # ahead of it and how many behind it. It shows that the rule is not turned
    # back by a before and a behind of which neither is greater than these.
    arrows = {pair: [step[2] for step in web[pair]] for pair in web}
    inward = _longest(arrows)
    onward = _longest(_turned(arrows))
    return [(inward[pair], onward[step[2]]) for pair in web for step in web[pair] if step[0] != step[1]]


def _turned(arrows):
    back = {pair: [] for pair in arrows}
    for pair, afters in arrows.items():
        for after in afters:
            back[after].append(pair)
    return back


def _longest(arrows):
    # How many steps the longest way to each pair has. A way of as many steps as
    # there are pairs comes to some pair twice and can be made as long as one
    # likes, so this number stands for endless.
    endless = len(arrows)
    longest = {pair: 0 for pair in arrows}
    reached = list(arrows)
    length = 0
    while length < endless:
        further = sorted({after for pair in reached for after in arrows[pair]})
        # Once no pair is lost by a step more, none is by any.
        length = endless if len(further) == len(reached) else length + 1
        for pair in further:
            longest[pair] = length
        reached = further
    return longest
