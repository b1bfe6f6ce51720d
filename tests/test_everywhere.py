"""Points 1 and 2, which hold for each function of origins, ends, webs and backing."""

import copy
import unittest

import samples
from backrule.backing import bounds, piece_back, ring_back
from backrule.ends import all_ends, ends_of, missing
from backrule.errors import BadRule
from backrule.origins import count_of, origin_of
from backrule.webs import rings, twins

OF_A_RULE = [missing, all_ends, twins, rings, bounds]
OF_A_ROW = [count_of, origin_of, ends_of, ring_back, piece_back]
ROWS = [[0, 1, 0, 1, 1, 0], [0], [], [9], [None], None, (0, 1), "01", 0, samples.LyingClass(), samples.LyingList([0])]


def spoil(told):
    """Change a list that was told, and each list in it, whole."""
    if type(told) is tuple:
        for part in told:
            spoil(part)
    elif type(told) is list:
        for part in told:
            spoil(part)
        told.append(7)
        told[0] = 7
        told.reverse()
        told.clear()


class TestTheRuleIsLookedAtFirst(unittest.TestCase):
    def test_functions_of_a_rule(self):
        for thing in samples.no_rules():
            for function in OF_A_RULE:
                with self.subTest(function=function.__name__), self.assertRaises(BadRule):
                    function(thing)

    def test_functions_of_a_rule_and_a_row(self):
        for thing in samples.no_rules():
            for function in OF_A_ROW:
                for row in ROWS:
                    with self.subTest(function=function.__name__), self.assertRaises(BadRule):
                        function(thing, row)


class TestNothingIsChanged(unittest.TestCase):
    def rules(self):
        return samples.turned_rules() + samples.half_turned_rules() + samples.far_rules()

    def test_lists_that_are_handed_in(self):
        for rule in samples.turned_rules():
            for function in OF_A_ROW:
                row = samples.spread(rule[0], 20)
                kept = copy.deepcopy(row)
                told = function(rule, row)
                self.assertEqual(row, kept)
                spoil(told)
                self.assertEqual(row, kept)

    def test_what_is_told_later_does_not_hang_on_what_was_told(self):
        for rule in self.rules():
            for function in OF_A_RULE:
                kept = copy.deepcopy(function(rule))
                told = function(rule)
                spoil(function(rule))
                self.assertEqual(told, kept)
                self.assertEqual(function(rule), kept)

    def test_what_is_told_of_rows_later_does_not_hang_on_what_was_told(self):
        for rule in samples.turned_rules():
            for function in OF_A_ROW:
                row = samples.spread(rule[0], 20)
                kept = copy.deepcopy(function(rule, row))
                told = function(rule, row)
                spoil(function(rule, row))
                self.assertEqual(told, kept)
                self.assertEqual(function(rule, row), kept)

    def test_lists_that_are_changed_later_change_nothing_that_was_told(self):
        for rule in samples.turned_rules():
            for function in OF_A_ROW:
                row = samples.spread(rule[0], 20)
                told = function(rule, row)
                kept = copy.deepcopy(told)
                row.clear()
                self.assertEqual(told, kept)

    def test_two_lists_that_are_told_are_not_one(self):
        for rule in self.rules():
            for function in (twins, rings):
                told = function(rule)
                if told is not None:
                    self.assertIsNot(told[0], told[1])

    def test_the_same_origin_is_told_anew(self):
        same = (2, 1, (0, 1))
        row = [0, 1, 1]
        for function in (origin_of, ring_back, piece_back):
            told = function(same, row)
            self.assertEqual(told, row)
            self.assertIsNot(told, row)


if __name__ == "__main__":
    unittest.main()
