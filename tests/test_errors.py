import unittest

from backrule import errors
from backrule.errors import BadRow, BadRule, BadText, NoBack, RowError, TooWide

REFUSALS = [BadRule, BadRow, TooWide, NoBack, BadText]


class TestErrors(unittest.TestCase):
    def test_row_error_is_a_value_error(self):
        self.assertEqual(RowError.__bases__, (ValueError,))

    def test_each_refusal_is_a_row_error_and_a_value_error(self):
        for refusal in REFUSALS:
            with self.subTest(refusal=refusal.__name__):
                self.assertTrue(issubclass(refusal, RowError))
                self.assertTrue(issubclass(refusal, ValueError))
                with self.assertRaises(RowError):
                    raise refusal("no")

    def test_none_is_under_another_one(self):
        for one in REFUSALS:
            for other in REFUSALS:
                with self.subTest(one=one.__name__, other=other.__name__):
                    self.assertEqual(issubclass(one, other), one is other)

    def test_the_names(self):
        for name in ["RowError", "BadRule", "BadRow", "TooWide", "NoBack", "BadText"]:
            found = getattr(errors, name)
            self.assertEqual((found.__name__, found.__module__), (name, "backrule.errors"))


if __name__ == "__main__":
    unittest.main()
