"""Rules and things for the tests, and the oracle that they are measured by."""

from itertools import product

VERY_GREAT = 10 ** 3000

# Each number of signs with each width that has at most 16 rows.
SHAPES = [(2, 1), (2, 2), (2, 3), (2, 4), (3, 1), (3, 2), (4, 1), (4, 2)]


class LyingTuple(tuple):
    """A tuple that fails when it is looked at."""

    def __len__(self):
        raise RuntimeError("len")

    def __iter__(self):
        raise RuntimeError("iter")

    def __getitem__(self, at):
        raise RuntimeError("getitem")


class LyingList(list):
    """A list that fails when it is looked at."""

    def __len__(self):
        raise RuntimeError("len")

    def __iter__(self):
        raise RuntimeError("iter")

    def __getitem__(self, at):
        raise RuntimeError("getitem")


class LyingClass:
    """A thing that does not tell its class and can't be compared."""

    @property
    def __class__(self):
        raise RuntimeError("class")

    def __eq__(self, other):
        raise RuntimeError("eq")

    def __hash__(self):
        raise RuntimeError("hash")

    def __le__(self, other):
        raise RuntimeError("le")

    __ge__ = __le__
    __lt__ = __le__
    __gt__ = __le__

    def __bool__(self):
        raise RuntimeError("bool")

    def __repr__(self):
        raise RuntimeError("repr")


def held_by_itself():
    rows = []
    rows.append(rows)
    return rows


def odd_things():
    """Things that are no rules, no whole numbers, no texts of rules; no lists of signs."""
    return [
        None, True, False, 1.0, 0.5, float("nan"), float("inf"), 1j, "", "0", "a", "0110", b"", b"0",
        (), (0,), (0, 1), {}, {0: 1}, {0, 1}, frozenset([0]), range(2), bytearray(b"0"), object(), int,
        tuple, len, LyingTuple((2, 1, (0, 1))), LyingList([0, 1]), LyingClass(), NotImplemented, ...,
        iter([0, 1]), (cell for cell in [0, 1]), held_by_itself(), [[0, 1]], (2, 1, [0, 1]),
    ]


def no_whole_numbers():
    return [None, True, False, 0.0, 1.0, 2.0, "0", "1", "2", b"1", 1j, [], [1], (), (1,), {}, LyingClass()]


def tables_of(signs, wide):
    """Some tables for each shape, and all of them where there are few."""
    many = signs ** wide
    if signs ** many <= 256:
        return list(product(range(signs), repeat=many))
    cells = list(product(range(signs), repeat=wide))
    return [
        (0,) * many,
        (signs - 1,) * many,
        tuple(row[0] for row in cells),
        tuple(row[-1] for row in cells),
        tuple(sum(row) % signs for row in cells),
        tuple((row[0] + row[-1]) % signs for row in cells),
        tuple((row[0] * row[-1] + row[1]) % signs for row in cells),
        tuple((at * at + at // 3 + 1) % signs for at in range(many)),
        tuple((at * 7 // 5) % signs for at in range(many)),
    ]


def rules_of(signs, wide):
    return [(signs, wide, table) for table in tables_of(signs, wide)]


def all_rules():
    return [rule for signs, wide in SHAPES for rule in rules_of(signs, wide)]


def few_rules():
    """Three rules of each shape, the last of which hangs on most of its cells."""
    return [rule for signs, wide in SHAPES for rule in rules_of(signs, wide)[1::3][:2] + [odd_rule(signs, wide)]]


def odd_rule(signs, wide):
    """A rule of this shape by which the places of a row are not told apart by chance."""
    table = tuple((at * at + 2 * at + at // 2) % signs for at in range(signs ** wide))
    return (signs, wide, table)


def pieces(signs, many):
    return [list(cells) for cells in product(range(signs), repeat=many)]


def told_by(rule):
    """A dict from each row of wide cells to the sign that comes of it."""
    signs, wide, table = rule
    return dict(zip(product(range(signs), repeat=wide), table, strict=True))


def piece_by_hand(rule, piece):
    told = told_by(rule)
    wide = rule[1]
    return [told[tuple(piece[at:at + wide])] for at in range(len(piece) - wide + 1)]


def ring_by_hand(rule, ring):
    told = told_by(rule)
    return [told[tuple(ring[(at + k) % len(ring)] for k in range(rule[1]))] for at in range(len(ring))]


def spoilt_rules():
    """Things that are nearly rules, each for one reason none."""
    found = []
    for signs, wide in SHAPES:
        table = odd_rule(signs, wide)[2]
        found.extend([
            (signs, wide, table + (0,)), (signs, wide, table[1:]), (signs, wide, ()), (signs, wide, table * 2),
            (signs, wide, list(table)), [signs, wide, table], (signs, wide), (signs, wide, table, 0), (table,),
            (wide, table), (signs, wide, table, table), (signs, wide, "0" * len(table)), (signs, wide, None),
            (signs, wide, dict.fromkeys(range(len(table)), 0)), (signs, wide, range(len(table))), (signs, table, wide),
        ])
        found.extend(spoilt_tables(signs, wide, table))
        for thing in no_whole_numbers() + [0, 1, 5, -1, -2, -signs, VERY_GREAT, -VERY_GREAT, 10 ** 18]:
            found.append((thing, wide, table))
        for thing in no_whole_numbers() + [0, 5, -1, -wide, VERY_GREAT, -VERY_GREAT, 10 ** 18]:
            found.append((signs, thing, table))
    return found


def spoilt_tables(signs, wide, table):
    found = []
    wrong = no_whole_numbers() + [-1, signs, signs + 1, -signs, VERY_GREAT, -VERY_GREAT, (0,)]
    for at in range(len(table)):
        for thing in wrong:
            found.append((signs, wide, table[:at] + (thing,) + table[at + 1:]))
    return found


def misshapen_rules():
    """Things with a table of as many signs as there are rows, but with signs or a wide beyond the limits."""
    found = [(1, wide, (0,)) for wide in range(5)]
    found.extend([(0, 1, ()), (0, 0, (0,)), (5, 1, (0, 1, 2, 3, 4)), (16, 1, (0,) * 16), (5, 1, (0,) * 5)])
    found.extend([(signs, 0, (0,)) for signs in (2, 3, 4)])
    for signs, wide in [(2, 5), (3, 3), (3, 4), (4, 3), (4, 4), (2, 6)]:
        found.append((signs, wide, (0,) * signs ** wide))
        found.append((signs, wide, (0,) * 16))
    found.extend([(2, True, (0, 1)), (2.0, 1, (0, 1)), (2, 1.0, (0, 1)), (True, 1, (0,)), (2, False, (0,))])
    return found


def no_rules():
    return odd_things() + spoilt_rules() + misshapen_rules()
