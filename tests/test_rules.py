import copy
import unittest
from itertools import product

import samples
from backrule import rules
from backrule.errors import BadRule
from backrule.rules import cells_of, is_rule, need_rule, number_of, rows_of


class TestLimits(unittest.TestCase):
    def test_the_limits(self):
        self.assertEqual((rules.MOST_SIGNS, rules.MOST_WIDE, rules.MOST_ROWS), (4, 4, 16))


class TestIsRule(unittest.TestCase):
    def test_rules(self):
        for rule in samples.all_rules():
            self.assertIs(is_rule(rule), True, rule)

    def test_the_written_one(self):
        self.assertIs(is_rule((2, 3, (0, 1, 1, 0, 1, 1, 1, 0))), True)

    def test_nearly_rules(self):
        for thing in samples.spoilt_rules():
            with self.subTest():
                self.assertIs(is_rule(thing), False)

    def test_signs_and_wide_beyond_the_limits(self):
        for thing in samples.misshapen_rules():
            self.assertIs(is_rule(thing), False, thing)

    def test_each_shape_that_is_asked(self):
        for signs in range(-2, 8):
            for wide in range(-2, 8):
                many = signs ** wide if wide >= 0 else 1
                thing = (signs, wide, (0,) * max(many, 0))
                self.assertIs(is_rule(thing), (signs, wide) in samples.SHAPES, (signs, wide))

    def test_each_length_of_a_table(self):
        for signs, wide in samples.SHAPES:
            for many in range(40):
                self.assertIs(is_rule((signs, wide, (0,) * many)), many == signs ** wide, (signs, wide, many))

    def test_things_of_other_kinds(self):
        for at, thing in enumerate(samples.odd_things()):
            with self.subTest(at=at):
                self.assertIs(is_rule(thing), False)

    def test_lying_things_within(self):
        lying = [samples.LyingClass(), samples.LyingTuple((0, 1)), samples.LyingList([0, 1]), samples.held_by_itself()]
        for at, thing in enumerate(lying):
            for rule in [(thing, 1, (0, 1)), (2, thing, (0, 1)), (2, 1, thing), (2, 1, (0, thing)), (2, 1, (thing, 1))]:
                with self.subTest(at=at):
                    self.assertIs(is_rule(rule), False)

    def test_very_great_and_very_low_numbers(self):
        for number in [10 ** 9, 10 ** 18, samples.VERY_GREAT, -10 ** 9, -10 ** 18, -samples.VERY_GREAT]:
            for thing in [(number, 1, (0, 1)), (2, number, (0, 1)), (number, number, (0, 1)), (2, 1, (0, number)),
                          (2, 1, (number, 0)), (4, number, ()), (number, 4, ()), number]:
                self.assertIs(is_rule(thing), False)

    def test_nothing_is_changed(self):
        thing = [2, 1, [0, 1]]
        before = copy.deepcopy(thing)
        is_rule(thing)
        is_rule((2, 1, thing))
        self.assertEqual(thing, before)


class TestNeedRule(unittest.TestCase):
    def test_rules(self):
        for rule in samples.all_rules():
            self.assertIsNone(need_rule(rule))

    def test_no_rules(self):
        for thing in samples.no_rules():
            with self.subTest():
                with self.assertRaises(BadRule):
                    need_rule(thing)


class TestNumbers(unittest.TestCase):
    def test_rows_of(self):
        for signs in range(2, 5):
            for wide in range(0, 6):
                self.assertEqual(rows_of(signs, wide), len(list(product(range(signs), repeat=wide))))

    def test_rows_of_no_cells(self):
        self.assertEqual([rows_of(signs, 0) for signs in (2, 3, 4)], [1, 1, 1])

    def test_number_of_written_ones(self):
        self.assertEqual(number_of(2, [0, 1, 1]), 3)
        self.assertEqual(number_of(2, [1, 1, 0]), 6)
        self.assertEqual(number_of(3, [2, 0]), 6)
        self.assertEqual(number_of(4, (1, 3)), 7)
        self.assertEqual(number_of(4, (3, 3)), 15)

    def test_number_of_no_cells(self):
        for signs in (2, 3, 4):
            self.assertEqual(number_of(signs, []), 0)
            self.assertEqual(number_of(signs, ()), 0)

    def test_cells_of_written_ones(self):
        self.assertEqual(cells_of(2, 3, 6), [1, 1, 0])
        self.assertEqual(cells_of(2, 4, 1), [0, 0, 0, 1])
        self.assertEqual(cells_of(3, 2, 6), [2, 0])
        self.assertEqual(cells_of(4, 2, 7), [1, 3])
        self.assertEqual(cells_of(4, 0, 0), [])

    def test_the_three_agree(self):
        for signs in range(2, 5):
            for wide in range(0, 6):
                rows = [cells_of(signs, wide, number) for number in range(rows_of(signs, wide))]
                self.assertEqual(rows, samples.pieces(signs, wide))
                self.assertEqual([number_of(signs, row) for row in rows], list(range(len(rows))))
                self.assertEqual([number_of(signs, tuple(row)) for row in rows], list(range(len(rows))))

    def test_number_of_changes_nothing(self):
        cells = [1, 0, 1]
        number_of(2, cells)
        self.assertEqual(cells, [1, 0, 1])

    def test_cells_are_the_askers_own(self):
        cells = cells_of(2, 3, 5)
        cells[0] = 0
        cells.append(7)
        self.assertEqual(cells_of(2, 3, 5), [1, 0, 1])


if __name__ == "__main__":
    unittest.main()
