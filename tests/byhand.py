"""What DOC.md's points 6 to 12 say, gone through one by one: the oracle for short pieces and rings."""

from functools import lru_cache
from itertools import product

import samples


@lru_cache(maxsize=64)
def images(rule, many):
    """Each row of so many cells with the piece that it comes to, both tuples, in the order of lists."""
    told = samples.told_by(rule)
    wide = rule[1]
    places = range(many - wide + 1)
    return [(row, tuple(told[row[at:at + wide]] for at in places)) for row in product(range(rule[0]), repeat=many)]


@lru_cache(maxsize=64)
def origins(rule, many):
    """A dict from each piece of so many cells that is not missing to its origins, in the order of lists."""
    found = {}
    for row, piece in images(rule, many + rule[1] - 1):
        found.setdefault(piece, []).append(row)
    return found


def lengths(rule, most_rows):
    """How many cells a piece may have while no more than so many rows are to be gone through."""
    found = []
    while rule[0] ** (len(found) + rule[1] - 1) <= most_rows:
        found.append(len(found))
    return found


def number(signs, cells):
    return sum(cell * signs ** at for at, cell in enumerate(reversed(cells)))


def ends(rule, piece):
    signs, wide, _ = rule
    lasts = [row[len(piece):] for row in origins(rule, len(piece)).get(tuple(piece), [])]
    assert all(len(last) == wide - 1 for last in lasts)
    return tuple(sorted({number(signs, last) for last in lasts}))


def ends_on(rule, ends_before, sign):
    """The ends with one sign more, of the ends before it alone."""
    signs, wide, _ = rule
    told = samples.told_by(rule)
    rows = [row for row in product(range(signs), repeat=wide) if number(signs, row[:-1]) in ends_before]
    return tuple(sorted({number(signs, row[1:]) for row in rows if told[row] == sign}))


def first_missing(rule, many):
    """The least missing piece of so many cells; None without one."""
    found = origins(rule, many)
    return next((list(piece) for piece in product(range(rule[0]), repeat=many) if piece not in found), None)


def are_twins(rule, one, other):
    margin = rule[1] - 1
    return (
        one != other and len(one) == len(other) and len(one) >= margin
        and one[:margin] == other[:margin] and one[len(one) - margin:] == other[len(other) - margin:]
        and samples.piece_by_hand(rule, one) == samples.piece_by_hand(rule, other)
    )


def has_twins(rule, many):
    """Tell whether two twins of so many cells are there, by all pairs of rows that come to one piece."""
    margin = rule[1] - 1
    seen = {(row[:margin], row[many - margin:], piece) for row, piece in images(rule, many)}
    return len(seen) < len(images(rule, many))


@lru_cache(maxsize=64)
def ring_images(rule, many):
    """What each ring of so many cells comes to, in the order of lists."""
    return [tuple(samples.ring_by_hand(rule, ring)) for ring in product(range(rule[0]), repeat=many)]


def has_rings(rule, many):
    return len(set(ring_images(rule, many))) < rule[0] ** many


def are_rings(rule, one, other):
    return (
        one != other and len(one) == len(other) and len(one) >= 1
        and samples.ring_by_hand(rule, one) == samples.ring_by_hand(rule, other)
    )


def is_turned_by(rule, before, behind):
    """Tell whether point 11 holds for this before and this behind."""
    place = before + rule[1] - 1
    return all(len({row[place] for row in rows}) == 1 for rows in origins(rule, before + 1 + behind).values())


def bounds_of_sum(rule, many):
    """All (before, behind) of this sum by which the rule is turned back, the least before first."""
    return [(before, many - before) for before in range(many + 1) if is_turned_by(rule, before, many - before)]


def signs_back(rule, piece, before, behind):
    """What a piece tells by point 11, from all origins of each piece of before + 1 + behind cells in it."""
    many = before + 1 + behind
    found = []
    for at in range(len(piece) - many + 1):
        told = {row[before + rule[1] - 1] for row in origins(rule, many)[tuple(piece[at:at + many])]}
        assert len(told) == 1
        found.extend(told)
    return found
