import re
import unittest

import samples
from backrule.errors import BadRule, BadText
from backrule.notes import read, shown

# The signs that point 5 lets a text have.
MARKS = [chr(code) for code in range(ord(" "), ord("~") + 1)] + ["\n", "\r", "\t"]


def by_hand(rule):
    signs, wide, table = rule
    return str(signs) + " " + str(wide) + " " + "".join(map(str, table))


def is_text(text):
    """Tell by another way than the program's whether a text is a rule's."""
    if re.fullmatch("[234] [1234] [0123]+", text) is None:
        return False
    signs, wide = int(text[0]), int(text[2])
    return (signs, wide) in samples.SHAPES and len(text) - 4 == signs ** wide and int(max(text[4:])) < signs


def written_over(text):
    """All texts with one sign left out, put in or written over."""
    found = [text[:at] + text[at + 1:] for at in range(len(text))]
    for mark in MARKS:
        found.extend([text[:at] + mark + text[at:] for at in range(len(text) + 1)])
        found.extend([text[:at] + mark + text[at + 1:] for at in range(len(text))])
    return found


class TestShown(unittest.TestCase):
    def test_the_written_one(self):
        self.assertEqual(shown((2, 3, (0, 1, 1, 0, 1, 1, 1, 0))), "2 3 01101110")
        self.assertEqual(shown((2, 1, (1, 0))), "2 1 10")
        self.assertEqual(shown((3, 2, (2, 1, 0, 0, 0, 0, 1, 1, 1))), "3 2 210000111")
        self.assertEqual(shown((4, 1, (3, 2, 1, 0))), "4 1 3210")

    def test_each_rule(self):
        for rule in samples.all_rules():
            self.assertEqual(shown(rule), by_hand(rule))

    def test_no_rules(self):
        for thing in samples.no_rules() + ["2 3 01101110"]:
            with self.subTest(), self.assertRaises(BadRule):
                shown(thing)


class TestRead(unittest.TestCase):
    def test_the_written_one(self):
        self.assertEqual(read("2 3 01101110"), (2, 3, (0, 1, 1, 0, 1, 1, 1, 0)))
        self.assertEqual(read("4 1 3210"), (4, 1, (3, 2, 1, 0)))

    def test_each_rule_is_read_and_shown_again(self):
        for rule in samples.all_rules():
            self.assertEqual(read(by_hand(rule)), rule)
            self.assertEqual(shown(read(by_hand(rule))), by_hand(rule))

    def test_one_sign_put_in_left_out_or_written_over(self):
        for signs, wide in samples.SHAPES:
            for text in written_over(by_hand(samples.odd_rule(signs, wide))):
                if is_text(text):
                    self.assertEqual(shown(read(text)), text)
                else:
                    with self.subTest(text=text), self.assertRaises(BadText):
                        read(text)

    def test_no_texts_of_rules(self):
        texts = [
            "", " ", "  ", "   ", "\n", "2", "2 3", "2 3 ", "2 3  ", " 2 3", "23 01101110", "2 301101110", "2301101110",
            " 2 3 01101110", "2 3 01101110 ", "2  3 01101110", "2 3  01101110", "2 3 01101110\n", "\n2 3 01101110",
            "2 3 01101110\r\n", "2\t3\t01101110", "2 3\t01101110", "2\n3\n01101110", "2 3 0110\n1110", "2 3 0110 1110",
            "+2 3 01101110", "-2 3 01101110", "2 +3 01101110", "2 3 +01101110", "2 3 -01101110", "02 3 01101110",
            "2 03 01101110", "2 3 001101110", "2 3 0110111", "2 3 011011100", "2 3 01101112", "2 3 21101110",
            "2 3 0110111a", "a 3 01101110", "2 b 01101110", "two 3 01101110", "2 3 0b101110", "2 3 0x101110",
            "2.0 3 01101110", "2 3.0 01101110", "2 3 0.101110", "2 3 01_01110", "2,3,01101110", "(2, 3, (0, 1))",
            "2 3 0 1 1 0 1 1 1 0", "1 1 0", "1 2 0", "0 1 ", "0 1 0", "5 1 01234", "5 1 00000", "2 0 0", "2 0 ",
            "2 5 " + "01" * 16, "3 3 " + "0" * 27, "4 3 " + "0" * 64, "4 4 " + "0" * 256, "10 1 0123456789",
            "16 1 " + "0" * 16, "12 1 " + "0" * 12, "2 12 " + "0" * 16, "2 34 " + "0" * 16, "2 1 0", "2 1 011",
            "2 1 10 ", "2 1 10 0", "2 1 10 2 1 10", "3 2 01230123", "3 2 012301230", "4 2 " + "0" * 15, "2 2 0" + "1" * 9,
            "2 1 10" * 1000, "2 1 " + "0" * 100000, "9" * 5000 + " 1 01", "2 " + "9" * 5000 + " 01",
        ]
        for text in texts:
            with self.subTest(text=text[:40]), self.assertRaises(BadText):
                read(text)

    def test_no_texts(self):
        things = [thing for thing in samples.odd_things() if type(thing) is not str]
        things.extend([(2, 3, (0, 1, 1, 0, 1, 1, 1, 0)), b"2 3 01101110", bytearray(b"2 1 10"), ["2 1 10"], ("2 1 10",)])
        things.extend([["2", "1", "10"], 2110, 2, -1, samples.VERY_GREAT, {"2 1 10": 1}, list("2 1 10")])
        for at, thing in enumerate(things):
            with self.subTest(at=at), self.assertRaises(BadText):
                read(thing)

    def test_it_tells_a_rule_of_tuples(self):
        rule = read("3 1 201")
        self.assertEqual((type(rule), type(rule[2])), (tuple, tuple))
        self.assertEqual([type(part) for part in rule[:2] + rule[2]], [int] * 5)


if __name__ == "__main__":
    unittest.main()
