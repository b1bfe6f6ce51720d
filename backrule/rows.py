"""Pieces and rings of cells, what they come to, and two rules in one."""

from backrule.errors import BadRow, BadRule, TooWide
from backrule.rules import are_signs, cells_of, has_room, need_rule, number_of, rows_of


def is_piece(rule, thing):
    """Tell of any thing whether it is a list of the rule's signs."""
    need_rule(rule)
    return type(thing) is list and are_signs(rule[0], thing)


def need_piece(rule, thing):
    """Refuse what is no piece of the rule's."""
    if not is_piece(rule, thing):
        raise BadRow("this is no piece of the rule's")


def need_ring(rule, thing):
    """Refuse what is no ring of the rule's."""
    need_piece(rule, thing)
    if len(thing) == 0:
        raise BadRow("a ring has one cell or more")


def piece_on(rule, piece):
    """The piece that a piece comes to."""
    need_piece(rule, piece)
    if len(piece) < rule[1] - 1:
        raise BadRow("this piece has too few cells")
    return _signs_from(rule, piece)


def ring_on(rule, ring):
    """The ring that a ring comes to."""
    need_ring(rule, ring)
    many = len(ring)
    # The row goes on behind the ring's last cell with its first one, and a
    # ring of fewer cells than the rule is wide is passed more than once.
    row = [ring[at % many] for at in range(many + rule[1] - 1)]
    return _signs_from(rule, row)


def joined(one, other):
    """The rule that does at once what one does and then the other."""
    need_rule(one)
    need_rule(other)
    if one[0] != other[0]:
        raise BadRule("these two rules have not as many signs")
    signs = one[0]
    wide = one[1] + other[1] - 1
    if not has_room(signs, wide):
        raise TooWide("these two rules together are too wide for a rule")
    table = []
    for number in range(rows_of(signs, wide)):
        between = _signs_from(one, cells_of(signs, wide, number))
        table.extend(_signs_from(other, between))
    return (signs, wide, tuple(table))


def _signs_from(rule, cells):
    # The signs that come of the wide cells from each place on, as long as there are so many.
    signs, wide, table = rule
    return [table[number_of(signs, cells[at:at + wide])] for at in range(len(cells) - wide + 1)]
