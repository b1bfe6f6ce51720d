import unittest

import samples
from backrule.errors import BadRow, BadRule, TooWide
from backrule.rows import is_piece, joined, piece_on, ring_on

WRITTEN = (2, 3, (0, 1, 1, 0, 1, 1, 1, 0))


class TestIsPiece(unittest.TestCase):
    def test_pieces(self):
        for rule in samples.few_rules():
            for many in range(0, 4):
                for piece in samples.pieces(rule[0], many):
                    self.assertIs(is_piece(rule, piece), True)

    def test_the_piece_of_no_cells(self):
        for rule in samples.few_rules():
            self.assertIs(is_piece(rule, []), True)

    def test_no_pieces(self):
        for signs, wide in samples.SHAPES:
            for thing in samples.no_pieces(signs):
                with self.subTest(signs=signs, wide=wide):
                    self.assertIs(is_piece(samples.odd_rule(signs, wide), thing), False)

    def test_it_is_the_rules_own_signs(self):
        self.assertIs(is_piece((2, 1, (0, 1)), [0, 2]), False)
        self.assertIs(is_piece((3, 1, (0, 1, 1)), [0, 2]), True)
        self.assertIs(is_piece((3, 1, (0, 1, 1)), [0, 3]), False)
        self.assertIs(is_piece((4, 1, (0, 1, 1, 1)), [0, 3]), True)

    def test_the_rule_is_looked_at_first(self):
        for thing in samples.no_rules():
            for piece in [[0, 1], [9], None]:
                with self.subTest(), self.assertRaises(BadRule):
                    is_piece(thing, piece)


class TestPieceOn(unittest.TestCase):
    def test_the_written_one(self):
        self.assertEqual(piece_on(WRITTEN, [0, 0, 1, 0, 1, 1]), [1, 1, 1, 0])
        self.assertEqual(piece_on((3, 2, (0, 1, 2, 1, 2, 0, 2, 0, 1)), [2, 1, 0, 0, 2]), [0, 1, 0, 2])
        self.assertEqual(piece_on((4, 1, (3, 0, 0, 1)), [0, 1, 2, 3]), [3, 0, 0, 1])

    def test_each_rule(self):
        for rule in samples.all_rules():
            for many in range(rule[1] - 1, rule[1] + 2):
                for piece in samples.pieces(rule[0], many):
                    self.assertEqual(piece_on(rule, piece), samples.piece_by_hand(rule, piece))

    def test_long_pieces(self):
        for signs, wide in samples.SHAPES:
            rule = samples.odd_rule(signs, wide)
            piece = [(at * at // 3) % signs for at in range(200)]
            told = piece_on(rule, piece)
            self.assertEqual(len(told), 200 - wide + 1)
            self.assertEqual(told, samples.piece_by_hand(rule, piece))

    def test_a_piece_of_wide_less_1_cells_comes_to_no_cells(self):
        for rule in samples.few_rules():
            for piece in samples.pieces(rule[0], rule[1] - 1):
                self.assertEqual(piece_on(rule, piece), [])

    def test_too_few_cells(self):
        for rule in samples.few_rules():
            for many in range(0, rule[1] - 1):
                for piece in samples.pieces(rule[0], many):
                    with self.assertRaises(BadRow):
                        piece_on(rule, piece)

    def test_no_pieces(self):
        for signs, wide in samples.SHAPES:
            for thing in samples.no_pieces(signs):
                with self.subTest(signs=signs, wide=wide), self.assertRaises(BadRow):
                    piece_on(samples.odd_rule(signs, wide), thing)

    def test_the_rule_is_looked_at_first(self):
        for thing in samples.no_rules():
            for piece in [[0, 1, 0, 1], [9], [], None]:
                with self.subTest(), self.assertRaises(BadRule):
                    piece_on(thing, piece)

    def test_nothing_is_changed_and_what_is_told_is_the_askers_own(self):
        for rule in samples.few_rules():
            piece = [0, 1, 1, 0, 1]
            told = piece_on(rule, piece)
            self.assertEqual(piece, [0, 1, 1, 0, 1])
            kept = list(told)
            told[0] = 9
            told.append(9)
            self.assertEqual(piece, [0, 1, 1, 0, 1])
            self.assertEqual(piece_on(rule, piece), kept)

    def test_what_is_told_is_not_what_was_handed_in(self):
        same = (2, 1, (0, 1))
        piece = [0, 1, 1]
        told = piece_on(same, piece)
        piece.append(0)
        self.assertEqual(told, [0, 1, 1])


class TestRingOn(unittest.TestCase):
    def test_the_written_one(self):
        self.assertEqual(ring_on(WRITTEN, [0, 0, 1, 0, 1, 1]), [1, 1, 1, 0, 1, 1])
        self.assertEqual(ring_on((3, 2, (0, 1, 2, 1, 2, 0, 2, 0, 1)), [2, 1, 0, 0, 2]), [0, 1, 0, 2, 1])

    def test_each_rule_and_rings_of_fewer_cells_than_it_is_wide(self):
        for rule in samples.all_rules():
            for many in range(1, rule[1] + 2):
                for ring in samples.pieces(rule[0], many):
                    self.assertEqual(ring_on(rule, ring), samples.ring_by_hand(rule, ring))

    def test_short_rings_of_the_widest(self):
        last = (2, 4, (0, 1) * 8)
        self.assertEqual(ring_on(last, [1]), [1])
        self.assertEqual(ring_on(last, [0, 1]), [1, 0])
        self.assertEqual(ring_on(last, [0, 1, 1]), [0, 1, 1])

    def test_long_rings(self):
        for signs, wide in samples.SHAPES:
            rule = samples.odd_rule(signs, wide)
            ring = [(at * at // 3) % signs for at in range(200)]
            self.assertEqual(ring_on(rule, ring), samples.ring_by_hand(rule, ring))

    def test_a_ring_of_no_cells(self):
        for rule in samples.few_rules():
            with self.assertRaises(BadRow):
                ring_on(rule, [])

    def test_no_rings(self):
        for signs, wide in samples.SHAPES:
            for thing in samples.no_pieces(signs):
                with self.subTest(signs=signs, wide=wide), self.assertRaises(BadRow):
                    ring_on(samples.odd_rule(signs, wide), thing)

    def test_the_rule_is_looked_at_first(self):
        for thing in samples.no_rules():
            for ring in [[0, 1], [9], [], None]:
                with self.subTest(), self.assertRaises(BadRule):
                    ring_on(thing, ring)

    def test_nothing_is_changed_and_what_is_told_is_the_askers_own(self):
        for rule in samples.few_rules():
            ring = [0, 1, 1]
            told = ring_on(rule, ring)
            self.assertEqual(ring, [0, 1, 1])
            kept = list(told)
            told[0] = 9
            told.append(9)
            self.assertEqual(ring, [0, 1, 1])
            self.assertEqual(ring_on(rule, ring), kept)


class TestJoined(unittest.TestCase):
    def pairs(self):
        rules = samples.few_rules()
        return [(one, other) for one in rules for other in rules if one[0] == other[0]]

    def fitting(self):
        return [(one, other) for one, other in self.pairs() if (one[0], one[1] + other[1] - 1) in samples.SHAPES]

    def test_the_written_ones(self):
        step = (2, 2, (0, 0, 0, 1))
        other = (2, 2, (0, 1, 1, 0))
        self.assertEqual(joined(step, other), (2, 3, (0, 0, 0, 1, 0, 0, 1, 0)))
        self.assertEqual(joined(other, step), (2, 3, (0, 0, 1, 0, 0, 1, 0, 0)))

    def test_it_is_a_rule_of_both_widths_less_1(self):
        for one, other in self.fitting():
            signs, wide, table = joined(one, other)
            self.assertEqual((signs, wide, len(table)), (one[0], one[1] + other[1] - 1, signs ** wide))
            self.assertIs(type(joined(one, other)), tuple)
            self.assertIs(type(table), tuple)

    def test_pieces_come_to_what_they_come_to_by_one_and_then_the_other(self):
        for one, other in self.fitting():
            both = joined(one, other)
            for many in range(both[1] - 1, both[1] + 2):
                for piece in samples.pieces(one[0], many):
                    self.assertEqual(piece_on(both, piece), piece_on(other, piece_on(one, piece)))

    def test_rings_come_to_what_they_come_to_by_one_and_then_the_other(self):
        for one, other in self.fitting():
            both = joined(one, other)
            for many in range(1, 5):
                for ring in samples.pieces(one[0], many):
                    self.assertEqual(ring_on(both, ring), ring_on(other, ring_on(one, ring)))

    def test_the_widest_that_fit(self):
        widths = sorted({(one[0], one[1], other[1]) for one, other in self.fitting()})
        self.assertEqual(widths, [
            (2, 1, 1), (2, 1, 2), (2, 1, 3), (2, 1, 4), (2, 2, 1), (2, 2, 2), (2, 2, 3), (2, 3, 1), (2, 3, 2),
            (2, 4, 1), (3, 1, 1), (3, 1, 2), (3, 2, 1), (4, 1, 1), (4, 1, 2), (4, 2, 1),
        ])

    def test_too_wide(self):
        fitting = self.fitting()
        wider = [pair for pair in self.pairs() if pair not in fitting]
        self.assertTrue(wider)
        for one, other in wider:
            with self.assertRaises(TooWide):
                joined(one, other)

    def test_bad_rules(self):
        good = (2, 3, (0, 1, 1, 0, 1, 1, 1, 0))
        for thing in samples.no_rules():
            for one, other in [(thing, good), (good, thing), (thing, thing)]:
                with self.subTest(), self.assertRaises(BadRule):
                    joined(one, other)

    def test_another_count_of_signs(self):
        rules = samples.few_rules()
        for one in rules:
            for other in rules:
                if one[0] != other[0]:
                    with self.assertRaises(BadRule):
                        joined(one, other)


if __name__ == "__main__":
    unittest.main()
