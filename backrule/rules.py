"""Rules, and the numbers of the rows of cells that their tables go by."""

from backrule.errors import BadRule

MOST_SIGNS = 4
MOST_WIDE = 4
MOST_ROWS = 16


def is_rule(thing):
    """Tell of any thing whether it is a rule (signs, wide, table)."""
    if type(thing) is not tuple or len(thing) != 3:
        return False
    signs, wide, table = thing
    if not _is_from_to(signs, 2, MOST_SIGNS) or not _is_from_to(wide, 1, MOST_WIDE):
        return False
    if not has_room(signs, wide):
        return False
    if type(table) is not tuple or len(table) != rows_of(signs, wide):
        return False
    return are_signs(signs, table)


def need_rule(thing):
    """Refuse what is no rule."""
    if not is_rule(thing):
        raise BadRule("this is no rule")


def rows_of(signs, wide):
    """How many rows of so many cells there are."""
    many = 1
    for _ in range(wide):
        many = many * signs
    return many


def number_of(signs, cells):
    """The number whose figures to the base signs the cells are, the first one the greatest."""
    number = 0
    for cell in cells:
        number = number * signs + cell
    return number


def cells_of(signs, wide, number):
    """The row of so many cells that has this number."""
    cells = []
    left = number
    for _ in range(wide):
        left, cell = divmod(left, signs)
        cells.append(cell)
    return cells[::-1]


def has_room(signs, wide):
    """Tell whether a rule of so many signs may be so wide."""
    return wide <= MOST_WIDE and rows_of(signs, wide) <= MOST_ROWS


def are_signs(signs, cells):
    """Tell of the items of a list or a tuple, things of any kind, whether each is a sign."""
    return all([_is_from_to(cell, 0, signs - 1) for cell in cells])


def _is_from_to(thing, least, most):
    # The kind is asked by type(..) and not by isinstance: a True or a False is
    # no whole number here, and a class with comparisons of its own is not asked.
    return type(thing) is int and least <= thing <= most
