import unittest
from itertools import product

import byhand
import samples
from backrule.backing import bounds, piece_back, ring_back
from backrule.ends import missing
from backrule.errors import BadRow, NoBack, TooWide
from backrule.rows import joined, piece_on, ring_on
from backrule.webs import rings, twins

WRITTEN = samples.rule_of("2 3 01101110")
UNLIKE = samples.rule_of("2 2 0110")
MOST_ROWS = 256


def not_turned_rules():
    return [rule for rule in samples.few_rules() + samples.far_rules() if bounds(rule) is None] \
        + samples.half_turned_rules()


class TestBounds(unittest.TestCase):
    def test_the_written_ones(self):
        for text, told in samples.TURNED.items():
            rule = samples.rule_of(text)
            self.assertEqual(bounds(rule), told, text)
            self.assertEqual(byhand.bounds_of_sum(rule, sum(told))[0], told, text)
            self.assertEqual([byhand.bounds_of_sum(rule, many) for many in range(sum(told))], [[]] * sum(told))
        for rule in [WRITTEN, UNLIKE] + samples.half_turned_rules() + samples.far_rules():
            self.assertIsNone(bounds(rule), rule)

    def test_a_tuple_of_two_whole_numbers(self):
        for rule in samples.turned_rules():
            told = bounds(rule)
            self.assertIs(type(told), tuple)
            self.assertEqual([type(many) for many in told], [int, int])

    def test_against_the_words_of_point_11(self):
        for rule in samples.told_apart_rules():
            told = bounds(rule)
            for many in range(len(byhand.lengths(rule, MOST_ROWS)) - 1):
                found = byhand.bounds_of_sum(rule, many)
                if found:
                    self.assertEqual(told, found[0], rule)
                    break
                self.assertTrue(told is None or sum(told) > many, (rule, told, many))

    def test_none_just_where_two_rings_show_it(self):
        for rule in samples.told_apart_rules():
            self.assertEqual(bounds(rule) is None, rings(rule) is not None, rule)

    def test_where_it_is_turned_back_no_piece_is_missing_and_there_are_no_twins(self):
        for rule in samples.told_apart_rules():
            if bounds(rule) is not None:
                self.assertEqual((missing(rule), twins(rule)), (None, None))

    def test_rules_that_are_1_wide(self):
        for signs in (2, 3, 4):
            for table in product(range(signs), repeat=signs):
                told = (0, 0) if len(set(table)) == signs else None
                self.assertEqual(bounds((signs, 1, table)), told)

    def test_the_sign_of_one_neighbour_alone(self):
        for signs, wide in samples.SHAPES:
            for place in range(wide):
                self.assertEqual(bounds(samples.taking(signs, wide, place)), (0, wide - 1 - place))

    def test_all_rules_of_two_signs_that_are_3_wide(self):
        rules = [(2, 3, table) for table in product(range(2), repeat=8)]
        self.assertEqual({rule for rule in rules if bounds(rule) is not None}, {
            samples.rule_of("2 3 " + word)
            for word in ("00001111", "11110000", "00110011", "11001100", "01010101", "10101010")
        })


class TestJoinedRules(unittest.TestCase):
    def test_they_are_turned_back_just_where_each_is(self):
        rules = samples.few_rules() + samples.turned_rules() + samples.half_turned_rules()
        kinds = {}
        for one, other in product(rules, repeat=2):
            if one[0] != other[0]:
                continue
            try:
                both = joined(one, other)
            except TooWide:
                continue
            each = (bounds(one) is not None, bounds(other) is not None)
            kinds[each] = kinds.get(each, 0) + 1
            self.assertEqual(bounds(both) is not None, all(each), (one, other))
            self.assertEqual(missing(both) is None, missing(one) is None and missing(other) is None)
        self.assertEqual(len(kinds), 4)
        self.assertGreater(min(kinds.values()), 20)

    def test_they_are_turned_back_by_the_other_and_then_the_one(self):
        for one, other in [("2 2 1100", "2 3 11001100"), ("2 1 10", "2 4 0011001101100011"),
                           ("4 2 1032102301320132", "4 1 3201"), ("3 1 120", "3 2 012012102")]:
            both = joined(samples.rule_of(one), samples.rule_of(other))
            for many in (1, 2, 3, 5, 200):
                ring = samples.spread(both[0], many)
                between = ring_back(samples.rule_of(other), ring)
                self.assertEqual(ring_back(both, ring), ring_back(samples.rule_of(one), between))


class TestRingBack(unittest.TestCase):
    def test_the_written_ones(self):
        self.assertEqual(ring_back((3, 1, (2, 0, 1)), [0, 1, 2, 2]), [1, 2, 0, 0])
        self.assertEqual(ring_back(samples.rule_of("2 2 1100"), [1, 0, 0]), [0, 1, 1])
        self.assertEqual(ring_back(samples.rule_of("2 3 11001100"), [1, 0, 0]), [1, 0, 1])
        # By this one a cell takes the sign two places on, turned over between 1, 0 and 1.
        rule = samples.rule_of("2 4 0011001101100011")
        self.assertEqual(ring_back(rule, [1, 1, 0, 0, 0]), [0, 0, 1, 1, 0])
        self.assertEqual(ring_back(rule, [1, 1, 0, 1, 0]), [1, 0, 0, 1, 0])

    def test_the_sign_of_one_neighbour_alone(self):
        for signs, wide in samples.SHAPES:
            for place in range(wide):
                for many in (1, 2, 3, 4, 5, 30):
                    ring = samples.spread(signs, many)
                    turn = place % many
                    told = ring[many - turn:] + ring[:many - turn]
                    self.assertEqual(ring_back(samples.taking(signs, wide, place), ring), told)

    def test_all_short_rings_forth_and_back_and_back_and_forth(self):
        for rule in samples.turned_rules():
            for many in range(1, 6):
                if rule[0] ** many > MOST_ROWS:
                    break
                for ring in samples.pieces(rule[0], many):
                    self.assertEqual(ring_back(rule, ring_on(rule, ring)), ring, rule)
                    self.assertEqual(ring_on(rule, ring_back(rule, ring)), ring, rule)

    def test_long_rings(self):
        for rule in samples.turned_rules():
            for many in (100, 501):
                ring = samples.spread(rule[0], many)
                self.assertEqual(ring_back(rule, ring_on(rule, ring)), ring, rule)
                self.assertEqual(ring_on(rule, ring_back(rule, ring)), ring, rule)

    def test_no_rings(self):
        for rule in samples.turned_rules() + not_turned_rules():
            for thing in samples.no_pieces(rule[0]) + [[]]:
                with self.subTest(), self.assertRaises(BadRow):
                    ring_back(rule, thing)

    def test_rules_that_are_not_turned_back(self):
        for rule in not_turned_rules():
            for ring in [[0], [1], [0, 1], [1, 0, 0], [0] * 300]:
                with self.assertRaises(NoBack):
                    ring_back(rule, ring)


class TestPieceBack(unittest.TestCase):
    def test_the_written_ones(self):
        self.assertEqual(piece_back((3, 1, (2, 0, 1)), [0, 1, 2, 2]), [1, 2, 0, 0])
        self.assertEqual(piece_back((3, 1, (2, 0, 1)), [1]), [2])
        self.assertEqual(piece_back(samples.rule_of("2 2 1100"), [1, 0, 0]), [1, 1])
        self.assertEqual(piece_back(samples.rule_of("2 3 01010101"), [1, 0, 0]), [1, 0, 0])

    def test_the_sign_of_one_neighbour_alone(self):
        for signs, wide in samples.SHAPES:
            for place in range(wide):
                piece = samples.spread(signs, 40)
                self.assertEqual(piece_back(samples.taking(signs, wide, place), piece), piece[wide - 1 - place:])

    def test_against_all_origins_of_each_piece_in_it(self):
        for rule in samples.turned_rules():
            before, behind = bounds(rule)
            least = before + 1 + behind
            for many in range(least, least + 3):
                if rule[0] ** many > MOST_ROWS:
                    break
                for piece in samples.pieces(rule[0], many):
                    told = piece_back(rule, piece)
                    self.assertEqual(len(told), many - least + 1)
                    self.assertEqual(told, byhand.signs_back(rule, piece, before, behind), rule)

    def test_long_pieces(self):
        for rule in samples.turned_rules():
            before, behind = bounds(rule)
            row = samples.spread(rule[0], 500)
            told = piece_back(rule, piece_on(rule, row))
            self.assertEqual(told, row[before + rule[1] - 1:500 - behind], rule)

    def test_too_few_cells(self):
        for rule in samples.turned_rules():
            least = sum(bounds(rule)) + 1
            for many in range(least):
                with self.assertRaises(BadRow):
                    piece_back(rule, [0] * many)
            self.assertEqual(len(piece_back(rule, [0] * least)), 1)

    def test_no_pieces(self):
        for rule in samples.turned_rules() + not_turned_rules():
            for thing in samples.no_pieces(rule[0]):
                with self.subTest(), self.assertRaises(BadRow):
                    piece_back(rule, thing)

    def test_rules_that_are_not_turned_back_whatever_the_piece_has(self):
        for rule in not_turned_rules():
            for piece in [[], [0], [1, 0], [0] * 300]:
                with self.assertRaises(NoBack):
                    piece_back(rule, piece)


if __name__ == "__main__":
    unittest.main()
