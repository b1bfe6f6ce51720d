import unittest

import byhand
import samples
from backrule.backing import bounds
from backrule.ends import missing
from backrule.origins import count_of
from backrule.rows import piece_on, ring_on
from backrule.webs import rings, twins

WRITTEN = samples.rule_of("2 3 01101110")
BOTH = samples.rule_of("2 2 0001")
UNLIKE = samples.rule_of("2 2 0110")
MOST_ROWS = 1024


def sizes(rule, most_rows):
    """How many cells a row may have while no more than so many rows are to be gone through."""
    found = []
    while rule[0] ** len(found) <= most_rows:
        found.append(len(found))
    return found


class TestTwins(unittest.TestCase):
    def test_the_written_ones(self):
        self.assertEqual(sorted(twins((3, 1, (2, 0, 0)))), [[1], [2]])
        self.assertEqual(sorted(twins(BOTH)), [[0, 0, 0], [0, 1, 0]])
        self.assertIsNone(twins(UNLIKE))
        self.assertIsNone(twins((4, 1, (3, 2, 0, 1))))

    def check(self, rule, told):
        self.assertIs(type(told), tuple)
        self.assertEqual([type(one) for one in told], [list, list])
        one, other = told
        self.assertTrue(byhand.are_twins(rule, one, other), (rule, told))
        self.assertEqual(piece_on(rule, one), piece_on(rule, other))

    def test_they_are_twins_and_no_others_are_shorter(self):
        for rule in samples.told_apart_rules():
            told = twins(rule)
            if told is not None:
                self.check(rule, told)
            for many in sizes(rule, MOST_ROWS)[rule[1] - 1:]:
                if told is not None and many == len(told[0]):
                    break
                self.assertFalse(byhand.has_twins(rule, many), (rule, told, many))

    def test_the_longest(self):
        for text, many in [("2 3 11100011", 6), ("2 3 11011110", 6), ("2 4 1110001000010101", 12),
                           ("2 4 1011010101101010", 12), ("3 2 221112210", 4)]:
            rule = samples.rule_of(text)
            told = twins(rule)
            self.check(rule, told)
            self.assertEqual(len(told[0]), many)
            self.assertFalse(byhand.has_twins(rule, many - 1))

    def test_there_are_twins_just_where_a_piece_is_missing(self):
        for rule in samples.told_apart_rules():
            self.assertEqual(twins(rule) is None, missing(rule) is None, rule)

    def test_without_twins_each_piece_has_as_many_origins_as_there_are_rows(self):
        for rule in samples.told_apart_rules():
            if twins(rule) is None:
                for many in range(5):
                    for piece in samples.pieces(rule[0], many):
                        self.assertEqual(count_of(rule, piece), rule[0] ** (rule[1] - 1))


class TestRings(unittest.TestCase):
    def test_the_written_ones(self):
        self.assertEqual(sorted(rings((3, 1, (2, 0, 0)))), [[1], [2]])
        self.assertEqual(sorted(rings(UNLIKE)), [[0], [1]])
        self.assertEqual(sorted(rings(WRITTEN)), [[0], [1]])
        self.assertIsNone(rings((4, 1, (3, 2, 0, 1))))
        self.assertIsNone(rings(samples.taking(2, 4, 0)))

    def check(self, rule, told):
        self.assertIs(type(told), tuple)
        self.assertEqual([type(one) for one in told], [list, list])
        one, other = told
        self.assertTrue(byhand.are_rings(rule, one, other), (rule, told))
        self.assertEqual(ring_on(rule, one), ring_on(rule, other))

    def test_they_come_to_one_ring_and_no_others_are_shorter(self):
        for rule in samples.told_apart_rules():
            told = rings(rule)
            if told is not None:
                self.check(rule, told)
            for many in sizes(rule, MOST_ROWS // 4)[1:]:
                if told is not None and many == len(told[0]):
                    break
                self.assertFalse(byhand.has_rings(rule, many), (rule, told, many))

    def test_the_longest(self):
        for text, many in [("2 3 11100010", 4), ("2 3 11010100", 4), ("2 4 1010010101011010", 7),
                           ("2 4 1001100101100110", 7), ("3 2 222110010", 3)]:
            rule = samples.rule_of(text)
            told = rings(rule)
            self.check(rule, told)
            self.assertEqual(len(told[0]), many)
            self.assertFalse(byhand.has_rings(rule, many - 1))

    def test_rings_of_fewer_cells_than_the_rule_is_wide(self):
        lengths = {len(told[0]) for told in map(rings, samples.told_apart_rules()) if told is not None}
        self.assertLessEqual({1, 2, 3, 4}, lengths)

    def test_none_just_where_the_rule_is_turned_back(self):
        for rule in samples.told_apart_rules():
            self.assertEqual(rings(rule) is None, bounds(rule) is not None, rule)
        for rule in samples.turned_rules():
            self.assertIsNone(rings(rule))
            self.assertIsNone(twins(rule))
            self.assertIsNone(missing(rule))
        for rule in samples.half_turned_rules():
            self.assertIsNotNone(rings(rule))
            self.assertIsNone(twins(rule))


if __name__ == "__main__":
    unittest.main()
