import unittest
from itertools import product

import byhand
import samples
from backrule.ends import all_ends, ends_of, missing
from backrule.errors import BadRow
from backrule.origins import count_of
from backrule.rows import piece_on

WRITTEN = samples.rule_of("2 3 01101110")
BOTH = samples.rule_of("2 2 0001")
UNLIKE = samples.rule_of("2 2 0110")
MOST_ROWS = 1024


def closed_by_hand(rule):
    """All tuples of ends that one comes to from that of no cells, sign by sign."""
    found = [tuple(range(rule[0] ** (rule[1] - 1)))]
    for before in found:
        for sign in range(rule[0]):
            after = byhand.ends_on(rule, before, sign)
            if after not in found:
                found.append(after)
    return found


class TestEndsOf(unittest.TestCase):
    def test_the_written_ones(self):
        self.assertEqual(ends_of(WRITTEN, []), (0, 1, 2, 3))
        self.assertEqual(ends_of(WRITTEN, [0]), (0, 3))
        self.assertEqual(ends_of(WRITTEN, [1]), (0, 1, 2))
        self.assertEqual([ends_of(BOTH, piece) for piece in ([], [0], [1], [1, 0], [1, 0, 1])],
                         [(0, 1), (0, 1), (1,), (0,), ()])

    def test_against_the_last_cells_of_all_origins(self):
        for rule in samples.told_apart_rules():
            for many in byhand.lengths(rule, 128):
                for piece in product(range(rule[0]), repeat=many):
                    told = ends_of(rule, list(piece))
                    self.assertEqual(told, byhand.ends(rule, piece), (rule, piece))
                    self.assertIs(type(told), tuple)

    def test_the_piece_of_no_cells(self):
        for rule in samples.told_apart_rules():
            self.assertEqual(ends_of(rule, []), tuple(range(rule[0] ** (rule[1] - 1))))

    def test_a_rule_that_is_1_wide(self):
        rule = (4, 1, (3, 0, 0, 3))
        for piece, told in [([], (0,)), ([0], (0,)), ([3, 0, 3], (0,)), ([1], ()), ([0, 2, 0], ()), ([0, 3, 1], ())]:
            self.assertEqual(ends_of(rule, piece), told)

    def test_none_just_where_the_piece_is_missing(self):
        for rule in samples.few_rules() + samples.far_rules():
            for many in range(5):
                for piece in samples.pieces(rule[0], many):
                    self.assertEqual(ends_of(rule, piece) == (), count_of(rule, piece) == 0)

    def test_long_pieces(self):
        for rule in samples.few_rules() + samples.turned_rules() + samples.far_rules():
            signs, wide, _ = rule
            row = samples.spread(signs, 400)
            told = ends_of(rule, piece_on(rule, row))
            self.assertIn(byhand.number(signs, row[400 - wide + 1:]), told)
            self.assertEqual(list(told), sorted(set(told)))
        self.assertEqual(ends_of(BOTH, [0] * 300 + [1]), (1,))
        self.assertEqual(ends_of(BOTH, [0] * 300 + [1, 0]), (0,))
        self.assertEqual(ends_of(BOTH, [0] * 300 + [1, 0, 0]), (0, 1))
        self.assertEqual(ends_of(BOTH, [0] * 300 + [1, 0, 1] + [0] * 300), ())

    def test_no_pieces(self):
        for signs, wide in samples.SHAPES:
            for thing in samples.no_pieces(signs):
                with self.subTest(signs=signs, wide=wide), self.assertRaises(BadRow):
                    ends_of(samples.odd_rule(signs, wide), thing)

    def test_a_wrong_sign_behind_a_missing_piece(self):
        for thing in (2, -1, True, None):
            with self.assertRaises(BadRow):
                ends_of(BOTH, [1, 0, 1, thing])


class TestMissing(unittest.TestCase):
    def test_the_written_ones(self):
        self.assertEqual(missing(BOTH), [1, 0, 1])
        self.assertEqual(missing(WRITTEN), [0, 1, 0, 1, 0])
        self.assertEqual(missing((3, 1, (2, 0, 0))), [1])
        self.assertEqual(missing((4, 1, (3, 3, 3, 3))), [0])
        self.assertEqual(missing((2, 4, (0,) * 16)), [1])
        self.assertIsNone(missing(UNLIKE))
        self.assertIsNone(missing((4, 1, (3, 2, 0, 1))))

    def test_against_all_pieces_shorter_ones_first(self):
        for rule in samples.told_apart_rules():
            told = missing(rule)
            for many in byhand.lengths(rule, MOST_ROWS):
                first = byhand.first_missing(rule, many)
                if first is not None or told is not None and many == len(told):
                    self.assertEqual(told, first, rule)
                    break

    def test_long_ones(self):
        for text, many in [("2 3 11011010", 9), ("2 3 01011011", 9), ("2 4 1110001000010101", 9)]:
            rule = samples.rule_of(text)
            told = missing(rule)
            self.assertEqual(len(told), many)
            self.assertEqual(told, byhand.first_missing(rule, many))
            self.assertEqual([byhand.first_missing(rule, fewer) for fewer in range(many)], [None] * many)

    def test_the_longest_of_the_widest(self):
        rule = samples.rule_of("2 4 1110101010010101")
        told = missing(rule)
        self.assertEqual(told, [0, 1, 0, 0, 1, 0, 1, 1, 0, 1, 0, 1, 1, 0, 1, 0, 1, 0])
        self.assertEqual(count_of(rule, told), 0)
        self.assertGreater(count_of(rule, told[1:]), 0)
        self.assertGreater(count_of(rule, told[:-1]), 0)

    def test_none_where_none_is_missing(self):
        for rule in samples.turned_rules() + samples.half_turned_rules():
            self.assertIsNone(missing(rule))
            self.assertNotIn((), closed_by_hand(rule))

    def test_it_has_no_origin_and_is_a_list(self):
        for rule in samples.told_apart_rules():
            told = missing(rule)
            if told is not None:
                self.assertIs(type(told), list)
                self.assertEqual(count_of(rule, told), 0)


class TestAllEnds(unittest.TestCase):
    def test_the_written_ones(self):
        self.assertEqual(all_ends((3, 1, (2, 0, 1))), [(0,)])
        self.assertEqual(all_ends(UNLIKE), [(0, 1)])
        self.assertEqual(all_ends(samples.taking(2, 2, 0)), [(0, 1)])
        told = all_ends(samples.taking(2, 2, 1))
        self.assertEqual((told[0], sorted(told)), ((0, 1), [(0,), (0, 1), (1,)]))
        self.assertIsNone(all_ends(BOTH))
        self.assertIsNone(all_ends(WRITTEN))

    def test_none_just_where_a_piece_is_missing(self):
        for rule in samples.told_apart_rules():
            self.assertEqual(all_ends(rule) is None, missing(rule) is not None, rule)

    def test_against_those_that_one_comes_to_sign_by_sign(self):
        for rule in samples.told_apart_rules():
            told = all_ends(rule)
            found = closed_by_hand(rule)
            if told is None:
                self.assertIn((), found)
            else:
                self.assertIs(type(told), list)
                self.assertEqual(told[0], tuple(range(rule[0] ** (rule[1] - 1))))
                self.assertEqual(sorted(told), sorted(found), rule)
                self.assertEqual({type(ends) for ends in told}, {tuple})

    def test_each_pieces_ends_are_among_them_and_each_is_some_pieces(self):
        for rule in samples.turned_rules() + samples.half_turned_rules():
            told = all_ends(rule)
            found = set()
            for many in byhand.lengths(rule, MOST_ROWS):
                found.update(byhand.ends(rule, piece) for piece in product(range(rule[0]), repeat=many))
            self.assertLessEqual(found, set(told))
            if len(told) < 20:
                self.assertEqual(found, set(told))

    def test_many(self):
        told = all_ends(samples.rule_of("2 4 1010011010011001"))
        self.assertEqual((len(told), len(set(told))), (192, 192))


if __name__ == "__main__":
    unittest.main()
