import importlib
import inspect
import unittest

INTERFACE = {
    "backrule.rules": {
        "is_rule": ["thing"], "need_rule": ["thing"], "rows_of": ["signs", "wide"],
        "number_of": ["signs", "cells"], "cells_of": ["signs", "wide", "number"],
    },
    "backrule.rows": {
        "is_piece": ["rule", "thing"], "piece_on": ["rule", "piece"], "ring_on": ["rule", "ring"],
        "joined": ["one", "other"],
    },
    "backrule.notes": {"shown": ["rule"], "read": ["text"]},
    "backrule.origins": {"count_of": ["rule", "piece"], "origin_of": ["rule", "piece"]},
    "backrule.ends": {"ends_of": ["rule", "piece"], "missing": ["rule"], "all_ends": ["rule"]},
    "backrule.webs": {"twins": ["rule"], "rings": ["rule"]},
    "backrule.backing": {"bounds": ["rule"], "ring_back": ["rule", "ring"], "piece_back": ["rule", "piece"]},
}


class TestInterface(unittest.TestCase):
    def test_each_function_stands_in_its_file_with_its_arguments(self):
        for module_name, functions in INTERFACE.items():
            module = importlib.import_module(module_name)
            for name, arguments in functions.items():
                with self.subTest(name=name):
                    function = getattr(module, name)
                    self.assertEqual(list(inspect.signature(function).parameters), arguments)
                    self.assertEqual(function.__module__, module_name)

    def test_arguments_may_be_passed_by_their_names(self):
        from backrule.backing import bounds, piece_back, ring_back
        from backrule.ends import ends_of
        from backrule.notes import read, shown
        from backrule.origins import count_of, origin_of
        from backrule.rows import joined, ring_on
        from backrule.rules import cells_of
        rule = read(text="2 1 10")
        self.assertEqual(shown(rule=joined(one=rule, other=rule)), "2 1 01")
        self.assertEqual(ring_on(rule=rule, ring=[0]), [1])
        self.assertEqual(cells_of(signs=2, wide=2, number=2), [1, 0])
        self.assertEqual(count_of(rule=rule, piece=[0]), 1)
        self.assertEqual(origin_of(rule=rule, piece=[0]), [1])
        self.assertEqual(ends_of(rule=rule, piece=[0]), (0,))
        self.assertEqual(bounds(rule=rule), (0, 0))
        self.assertEqual(ring_back(rule=rule, ring=[0]), [1])
        self.assertEqual(piece_back(rule=rule, piece=[0]), [1])


if __name__ == "__main__":
    unittest.main()
