"""Steps: a row of wide - 1 cells, told as its number, goes on by one cell."""

from backrule.rules import rows_of


def steps_of(rule):
    """The steps of each row of wide - 1 cells, at the place of its number.

    A step is a tuple (cell, sign, after): the cell that stands next, the sign
    that comes of the row and that cell, and the number of the row of the last
    wide - 1 of these cells. Steps stand in the order of their cells.
    """
    signs, wide, table = rule
    many = rows_of(signs, wide - 1)
    return [[_step(signs, table, many, end * signs + cell) for cell in range(signs)] for end in range(many)]


def _step(signs, table, many, number):
    # Of the wide cells with this number the last one is its last figure, and
    # without the first figure there remain the last wide - 1 of them.
    return (number % signs, table[number], number % many)
