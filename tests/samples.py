"""Rules and things for the tests, and the oracle that they are measured by."""

from itertools import product

VERY_GREAT = 10 ** 3000

# Each number of signs with each width that has at most 16 rows.
SHAPES = [(2, 1), (2, 2), (2, 3), (2, 4), (3, 1), (3, 2), (4, 1), (4, 2)]


class LyingTuple(tuple):
    """A tuple that fails when it is looked at."""

    def __len__(self):
        raise RuntimeError("len")

    def __iter__(self):
        raise RuntimeError("iter")

    def __getitem__(self, at):
        raise RuntimeError("getitem")


class LyingList(list):
    """A list that fails when it is looked at."""

    def __len__(self):
        raise RuntimeError("len")

    def __iter__(self):
        raise RuntimeError("iter")

    def __getitem__(self, at):
        raise RuntimeError("getitem")


class LyingClass:
    """A thing that does not tell its class and can't be compared."""

    @property
    def __class__(self):
        raise RuntimeError("class")

    def __eq__(self, other):
        raise RuntimeError("eq")

    def __hash__(self):
        raise RuntimeError("hash")

    def __le__(self, other):
        raise RuntimeError("le")

    __ge__ = __le__
    __lt__ = __le__
    __gt__ = __le__

    def __bool__(self):
        raise RuntimeError("bool")

    def __repr__(self):
        raise RuntimeError("repr")


def held_by_itself():
    rows = []
    rows.append(rows)
    return rows


def odd_things():
    """Things that are no rules, no whole numbers, no texts of rules; no lists of signs."""
    return [
        None, True, False, 1.0, 0.5, float("nan"), float("inf"), 1j, "", "0", "a", "0110", b"", b"0",
        (), (0,), (0, 1), {}, {0: 1}, {0, 1}, frozenset([0]), range(2), bytearray(b"0"), object(), int,
        tuple, len, LyingTuple((2, 1, (0, 1))), LyingList([0, 1]), LyingClass(), NotImplemented, ...,
        iter([0, 1]), (cell for cell in [0, 1]), held_by_itself(), [[0, 1]], (2, 1, [0, 1]),
    ]


def no_whole_numbers():
    return [None, True, False, 0.0, 1.0, 2.0, "0", "1", "2", b"1", 1j, [], [1], (), (1,), {}, LyingClass()]


def tables_of(signs, wide):
    """Some tables for each shape, and all of them where there are few."""
    many = signs ** wide
    if signs ** many <= 256:
        return list(product(range(signs), repeat=many))
    cells = list(product(range(signs), repeat=wide))
    return [
        (0,) * many,
        (signs - 1,) * many,
        tuple(row[0] for row in cells),
        tuple(row[-1] for row in cells),
        tuple(sum(row) % signs for row in cells),
        tuple((row[0] + row[-1]) % signs for row in cells),
        tuple((row[0] * row[-1] + row[1]) % signs for row in cells),
        tuple((at * at + at // 3 + 1) % signs for at in range(many)),
        tuple((at * 7 // 5) % signs for at in range(many)),
    ]


def rules_of(signs, wide):
    return [(signs, wide, table) for table in tables_of(signs, wide)]


def all_rules():
    return [rule for signs, wide in SHAPES for rule in rules_of(signs, wide)]


def few_rules():
    """Three rules of each shape, the last of which hangs on most of its cells."""
    return [rule for signs, wide in SHAPES for rule in rules_of(signs, wide)[1::3][:2] + [odd_rule(signs, wide)]]


def odd_rule(signs, wide):
    """A rule of this shape by which the places of a row are not told apart by chance."""
    table = tuple((at * at + 2 * at + at // 2) % signs for at in range(signs ** wide))
    return (signs, wide, table)


def pieces(signs, many):
    return [list(cells) for cells in product(range(signs), repeat=many)]


def told_by(rule):
    """A dict from each row of wide cells to the sign that comes of it."""
    signs, wide, table = rule
    return dict(zip(product(range(signs), repeat=wide), table, strict=True))


def piece_by_hand(rule, piece):
    told = told_by(rule)
    wide = rule[1]
    return [told[tuple(piece[at:at + wide])] for at in range(len(piece) - wide + 1)]


def ring_by_hand(rule, ring):
    told = told_by(rule)
    return [told[tuple(ring[(at + k) % len(ring)] for k in range(rule[1]))] for at in range(len(ring))]


def spoilt_rules():
    """Things that are nearly rules, each for one reason none."""
    found = []
    for signs, wide in SHAPES:
        table = odd_rule(signs, wide)[2]
        found.extend([
            (signs, wide, table + (0,)), (signs, wide, table[1:]), (signs, wide, ()), (signs, wide, table * 2),
            (signs, wide, list(table)), [signs, wide, table], (signs, wide), (signs, wide, table, 0), (table,),
            (wide, table), (signs, wide, table, table), (signs, wide, "0" * len(table)), (signs, wide, None),
            (signs, wide, dict.fromkeys(range(len(table)), 0)), (signs, wide, range(len(table))), (signs, table, wide),
        ])
        found.extend(spoilt_tables(signs, wide, table))
        for thing in no_whole_numbers() + [0, 1, 5, -1, -2, -signs, VERY_GREAT, -VERY_GREAT, 10 ** 18]:
            found.append((thing, wide, table))
        for thing in no_whole_numbers() + [0, 5, -1, -wide, VERY_GREAT, -VERY_GREAT, 10 ** 18]:
            found.append((signs, thing, table))
    return found


def spoilt_tables(signs, wide, table):
    found = []
    wrong = no_whole_numbers() + [-1, signs, signs + 1, -signs, VERY_GREAT, -VERY_GREAT, (0,)]
    for at in range(len(table)):
        for thing in wrong:
            found.append((signs, wide, table[:at] + (thing,) + table[at + 1:]))
    return found


def misshapen_rules():
    """Things with a table of as many signs as there are rows, but with signs or a wide beyond the limits."""
    found = [(1, wide, (0,)) for wide in range(5)]
    found.extend([(0, 1, ()), (0, 0, (0,)), (5, 1, (0, 1, 2, 3, 4)), (16, 1, (0,) * 16), (5, 1, (0,) * 5)])
    found.extend([(signs, 0, (0,)) for signs in (2, 3, 4)])
    for signs, wide in [(2, 5), (3, 3), (3, 4), (4, 3), (4, 4), (2, 6)]:
        found.append((signs, wide, (0,) * signs ** wide))
        found.append((signs, wide, (0,) * 16))
    found.extend([(2, True, (0, 1)), (2.0, 1, (0, 1)), (2, 1.0, (0, 1)), (True, 1, (0,)), (2, False, (0,))])
    return found


def no_rules():
    return odd_things() + spoilt_rules() + misshapen_rules()


def no_pieces(signs):
    """Things that are no list of so many signs, each handed in as a thing of its own."""
    wrong = no_whole_numbers() + [-1, signs, signs + 1, VERY_GREAT, -VERY_GREAT, [0], (0,)]
    good = [0, 1, 0, 1, 1]
    found = [good[:at] + [thing] + good[at + 1:] for at in range(len(good)) for thing in wrong]
    found.extend([[thing] for thing in wrong])
    found.extend([thing for thing in odd_things() if type(thing) is not list])
    found.extend([tuple(good), "01011", b"01011", dict.fromkeys(good), 0, 1, 5, -1, VERY_GREAT])
    found.extend([held_by_itself(), [good], LyingList(good)])
    return found


def rule_of(text):
    """The rule that a text of point 5 writes, read by another way than the program's."""
    signs, wide, table = text.split(" ")
    return (int(signs), int(wide), tuple(map(int, table)))


def taking(signs, wide, place):
    """The rule by which a cell takes the sign of the cell at one place of its wide cells alone."""
    return (signs, wide, tuple(row[place] for row in product(range(signs), repeat=wide)))


def spread(signs, many):
    """A row of so many cells, with no order that is plain to see."""
    return [(at * at // 3 + at // 7 + at * at * at // 11) % signs for at in range(many)]


# Rules that are turned back, with the before and the behind that point 12 asks for.
TURNED = {
    "2 1 01": (0, 0), "2 1 10": (0, 0), "3 1 120": (0, 0), "4 1 3201": (0, 0),
    "2 2 0101": (0, 0), "2 2 1100": (0, 1), "2 3 11001100": (0, 1), "2 3 00001111": (0, 2),
    "2 4 0101010101010101": (0, 0), "2 4 1100110011001100": (0, 1), "2 4 1111000011110000": (0, 2),
    "2 4 0000000011111111": (0, 3), "2 4 0000111101001011": (0, 4), "2 4 1111000010110100": (0, 4),
    "2 4 0011001101100011": (1, 2), "2 4 1100011011001100": (1, 2),
    "3 2 120120120": (0, 0), "3 2 222000111": (0, 1), "3 2 222100011": (0, 2), "3 2 221112000": (0, 2),
    "3 2 012012102": (1, 0),
    "4 2 0132013201320132": (0, 0), "4 2 0101010123232323": (0, 1), "4 2 1032102310321032": (1, 0),
    "4 2 1311222231330000": (0, 2), "4 2 0101332233220011": (1, 1), "4 2 1032102301320132": (2, 0),
    "4 2 1121000032332312": (0, 3), "4 2 0000333121131222": (0, 3),
}

# Rules without a missing piece that are not turned back all the same.
HALF_TURNED = [
    "2 2 0110", "2 2 1001", "2 3 10010110", "2 3 00011110", "2 3 01101010", "2 3 10101001",
    "2 4 0110100110010110", "2 4 1010010101011010", "2 4 1010011010011001", "3 2 012120201", "3 2 210210102",
    "4 2 0123123023013012", "4 2 0123103223013210",
]

# Rules whose shortest missing pieces, twins or rings are longer than those of most.
FAR = [
    "2 3 11011010", "2 3 01011011", "2 3 11100011", "2 3 11011110", "2 3 11100010", "2 3 11010100",
    "2 4 1110101010010101", "2 4 1110001000010101", "2 4 1011010101101010", "2 4 1001100101100110",
    "3 2 221210102", "3 2 221112210", "3 2 222110010", "3 2 221102210",
]


def turned_rules():
    return [rule_of(text) for text in TURNED]


def half_turned_rules():
    return [rule_of(text) for text in HALF_TURNED]


def far_rules():
    return [rule_of(text) for text in FAR]


def told_apart_rules():
    """Rules of each shape, of each of the three kinds: turned back, without a missing piece, with one."""
    rules = all_rules() + turned_rules() + half_turned_rules() + far_rules()
    return list(dict.fromkeys(rules))
