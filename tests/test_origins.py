import unittest
from itertools import product

import byhand
import samples
from backrule.errors import BadRow
from backrule.origins import count_of, origin_of
from backrule.rows import piece_on

WRITTEN = samples.rule_of("2 3 01101110")
BOTH = samples.rule_of("2 2 0001")
UNLIKE = samples.rule_of("2 2 0110")


def constant(signs, wide):
    return (signs, wide, (0,) * signs ** wide)


def fibonacci(many):
    low, high = 0, 1
    for _ in range(many):
        low, high = high, low + high
    return low


class TestCountOf(unittest.TestCase):
    def test_the_written_ones(self):
        self.assertEqual([count_of(WRITTEN, piece) for piece in ([], [0], [1], [0, 0], [1, 0])], [4, 3, 5, 3, 3])
        self.assertEqual([count_of(BOTH, piece) for piece in ([], [0], [1], [1, 0, 1])], [2, 3, 1, 0])
        self.assertEqual(count_of((3, 1, (0, 0, 2)), [0, 2, 0]), 4)
        self.assertEqual(count_of((3, 1, (0, 0, 2)), [0, 1, 0]), 0)

    def test_against_all_pieces_one_by_one(self):
        for rule in samples.told_apart_rules():
            for many in byhand.lengths(rule, 128):
                found = byhand.origins(rule, many)
                for piece in product(range(rule[0]), repeat=many):
                    self.assertEqual(count_of(rule, list(piece)), len(found.get(piece, [])), (rule, piece))

    def test_the_piece_of_no_cells(self):
        for rule in samples.told_apart_rules():
            self.assertEqual(count_of(rule, []), rule[0] ** (rule[1] - 1))

    def test_all_pieces_of_as_many_cells_have_all_rows_as_origins(self):
        for rule in samples.few_rules() + samples.far_rules():
            for many in range(4):
                counts = [count_of(rule, piece) for piece in samples.pieces(rule[0], many)]
                self.assertEqual(sum(counts), rule[0] ** (many + rule[1] - 1))

    def test_a_missing_piece_has_none_and_what_holds_it_has_none(self):
        for piece in [[1, 0, 1], [1, 0, 1, 0], [0, 1, 0, 1], [1, 0, 1] * 100, [0] * 300 + [1, 0, 1] + [1] * 300]:
            self.assertEqual(count_of(BOTH, piece), 0)

    def test_long_pieces_of_which_all_rows_are_origins(self):
        for signs, wide in samples.SHAPES:
            for many in (300, 700):
                self.assertEqual(count_of(constant(signs, wide), [0] * many), signs ** (many + wide - 1))
                self.assertEqual(count_of(constant(signs, wide), [0] * many + [1]), 0)

    def test_long_pieces_of_which_some_are(self):
        self.assertEqual(count_of(BOTH, [0] * 600), fibonacci(603))
        self.assertEqual(count_of(BOTH, [1] * 600), 1)
        self.assertEqual(count_of(BOTH, [0] * 300 + [1] + [0] * 400), fibonacci(301) * fibonacci(401))

    def test_long_pieces_where_each_has_as_many_origins(self):
        for rule in samples.turned_rules() + samples.half_turned_rules():
            piece = samples.spread(rule[0], 500)
            self.assertEqual(count_of(rule, piece), rule[0] ** (rule[1] - 1))

    def test_no_pieces(self):
        for signs, wide in samples.SHAPES:
            for thing in samples.no_pieces(signs):
                with self.subTest(signs=signs, wide=wide), self.assertRaises(BadRow):
                    count_of(samples.odd_rule(signs, wide), thing)

    def test_a_wrong_sign_behind_a_missing_piece(self):
        for thing in (2, -1, True, None):
            with self.assertRaises(BadRow):
                count_of(BOTH, [1, 0, 1, thing])


class TestOriginOf(unittest.TestCase):
    def test_the_written_ones(self):
        self.assertEqual(origin_of(WRITTEN, [0]), [0, 0, 0])
        self.assertEqual(origin_of(WRITTEN, [1]), [0, 0, 1])
        self.assertEqual(origin_of(WRITTEN, [1, 0]), [0, 0, 1, 1])
        self.assertEqual(origin_of(BOTH, [0, 1, 0, 0]), [0, 1, 1, 0, 0])
        self.assertEqual(origin_of((3, 1, (2, 0, 0)), [0, 2, 0]), [1, 0, 1])
        self.assertIsNone(origin_of(BOTH, [1, 0, 1]))
        self.assertIsNone(origin_of((3, 1, (0, 0, 2)), [0, 1, 0]))

    def test_against_all_pieces_one_by_one(self):
        for rule in samples.told_apart_rules():
            for many in byhand.lengths(rule, 128):
                found = byhand.origins(rule, many)
                for piece in product(range(rule[0]), repeat=many):
                    least = list(found[piece][0]) if piece in found else None
                    self.assertEqual(origin_of(rule, list(piece)), least, (rule, piece))

    def test_the_piece_of_no_cells(self):
        for rule in samples.told_apart_rules():
            self.assertEqual(origin_of(rule, []), [0] * (rule[1] - 1))

    def test_it_comes_to_the_piece(self):
        for rule in samples.few_rules() + samples.turned_rules() + samples.half_turned_rules() + samples.far_rules():
            row = samples.spread(rule[0], 400)
            piece = piece_on(rule, row)
            origin = origin_of(rule, piece)
            self.assertEqual(len(origin), 400)
            self.assertEqual(piece_on(rule, origin), piece)
            self.assertLessEqual(origin, row)
            self.assertEqual({type(cell) for cell in origin}, {int})

    def test_the_least_of_long_pieces(self):
        for signs, wide in samples.SHAPES:
            self.assertEqual(origin_of(constant(signs, wide), [0] * 600), [0] * (600 + wide - 1))
        piece = samples.spread(2, 500)
        sums = [sum(piece[:at]) % 2 for at in range(501)]
        self.assertEqual(origin_of(UNLIKE, piece), sums)
        piece = ([0] * 9 + [1]) * 40
        forced = [max(pair) for pair in zip(piece + [0], [0] + piece, strict=True)]
        self.assertEqual(origin_of(BOTH, piece), forced)

    def test_a_long_missing_piece(self):
        self.assertIsNone(origin_of(BOTH, [0] * 300 + [1, 0, 1] + [0] * 300))
        self.assertIsNone(origin_of(BOTH, [0] * 600 + [1, 0, 1]))
        self.assertIsNone(origin_of(BOTH, [1, 0, 1] + [0] * 600))

    def test_no_pieces(self):
        for signs, wide in samples.SHAPES:
            for thing in samples.no_pieces(signs):
                with self.subTest(signs=signs, wide=wide), self.assertRaises(BadRow):
                    origin_of(samples.odd_rule(signs, wide), thing)

    def test_a_wrong_sign_behind_a_missing_piece(self):
        for thing in (2, -1, True, None):
            with self.assertRaises(BadRow):
                origin_of(BOTH, [1, 0, 1, thing])


if __name__ == "__main__":
    unittest.main()
