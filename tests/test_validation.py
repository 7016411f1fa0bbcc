"""Promises 12 to 14: tests of values, numbers and words."""

import copy
import unittest

from tests.helper import EDGE_CHARS, NO_CHARS, NO_KINDS, is_plain_integer, odd_values
from threecounts.codecs import Reader
from threecounts.texts import Text
from threecounts.validation import (is_char, is_chars, is_integer, is_kind, is_list, is_name, parse_integer,
                                    split_words)

KINDS = ["bytes", "units", "chars"]


class Values(unittest.TestCase):

    def test_is_integer_within_and_beside_its_bounds(self):
        for low, high in [(0, 0), (-3, 5), (7, 7), (-9, -2), (0, 999999), (-10 ** 30, 10 ** 30)]:
            for value, wanted in [(low, True), (high, True), (low - 1, False), (high + 1, False)]:
                self.assertIs(is_integer(value, low, high), wanted)
        self.assertIs(is_integer(4, 3, 5), True)

    def test_is_integer_with_low_above_high(self):
        for value in range(-2, 9):
            self.assertIs(is_integer(value, 5, 1), False)
        self.assertIs(is_integer(3, 4, 3), False)
        self.assertIs(is_integer(4, 4, 3), False)

    def test_true_and_false_are_no_integers(self):
        self.assertIs(is_integer(True, 0, 5), False)
        self.assertIs(is_integer(False, 0, 5), False)
        self.assertIs(is_integer(1, 0, 5), True)
        self.assertIs(is_integer(0, 0, 5), True)

    def test_is_integer_of_any_value(self):
        for value in odd_values():
            wanted = is_plain_integer(value) and -2 <= value <= 2
            self.assertIs(is_integer(value, -2, 2), wanted)

    def test_is_char_at_the_bounds(self):
        for value in EDGE_CHARS:
            self.assertIs(is_char(value), True)
        for value in NO_CHARS:
            self.assertIs(is_char(value), False)

    def test_is_char_everywhere(self):
        for value in range(55296 - 300, 57344 + 300):
            self.assertIs(is_char(value), not 55296 <= value < 57344)
        for value in range(0, 1114112, 131):
            self.assertIs(is_char(value), not 55296 <= value < 57344)

    def test_is_char_of_any_value(self):
        for value in odd_values():
            self.assertIs(is_char(value), is_plain_integer(value) and value in (0, 1))

    def test_is_kind(self):
        for value in KINDS:
            self.assertIs(is_kind(value), True)
        for value in NO_KINDS + ["BYTES", "units\n", "s", "bytes units", {}, Text([]), "chars" * 2]:
            self.assertIs(is_kind(value), False)
        for value in odd_values():
            self.assertIs(is_kind(value), value == "bytes")

    def test_is_name(self):
        for value in ["a", "z", "ann", "editor", "abcdefgh", "zzzzzzzz", "bytes"]:
            self.assertIs(is_name(value), True)
        for value in ["", "abcdefghi", "Ann", "aNn", "anN", "a b", " a", "a ", "a1", "1", "a_b", "a-b", "a\n", "\n",
                      "`", "{", "a`", "a{", "A", "Z", "a" * 200, "\u00e4", "a\u00e4", None, True, 1, ["a"], ("a",),
                      {"a": 1}]:
            self.assertIs(is_name(value), False)
        for value in odd_values():
            self.assertIs(is_name(value), value in ("a", "bytes"))

    def test_is_list(self):
        for value in [[], (), [1], (1,), [[]], ["a", None], list(range(1300)), tuple(range(1300))]:
            self.assertIs(is_list(value), True)
        for value in [None, True, False, 0, 1, "", "ab", {}, {1: 2}, Text([]), Text([1, 2]), Reader("chars")]:
            self.assertIs(is_list(value), False)

    def test_is_chars(self):
        for value in [[], (), EDGE_CHARS, tuple(EDGE_CHARS), [104, 128512], [8364] * 1300, (8364,) * 1300]:
            self.assertIs(is_chars(value), True)
        for value in [None, True, 0, 65, "", "ab", {}, {65: 66}, Text([]), Text([65]), Reader("chars"), [[65]], [()]]:
            self.assertIs(is_chars(value), False)

    def test_is_chars_with_one_odd_item(self):
        for odd in NO_CHARS:
            for place in [0, 1, 649, 1299]:
                value = [65] * 1300
                value[place] = odd
                self.assertIs(is_chars(value), False)
                self.assertIs(is_chars(tuple(value)), False)
                self.assertIs(is_list(value), True)

    def test_arguments_by_name(self):
        self.assertIs(is_integer(high=3, low=1, value=2), True)
        self.assertIs(is_integer(2, high=1, low=3), False)
        self.assertIs(is_char(value=55296), False)
        self.assertIs(is_chars(value=[104]), True)
        self.assertIs(is_list(value=()), True)
        self.assertIs(is_kind(value="chars"), True)
        self.assertIs(is_name(value="ann"), True)

    def test_values_stay_as_they_were(self):
        for call in [is_char, is_chars, is_list, is_kind, is_name, parse_integer, split_words,
                     lambda value: is_integer(value, 0, 9)]:
            for value in [[1, [2, "a"], {"b": [3]}], {"a": [1]}, (1, [2])]:
                before = copy.deepcopy(value)
                call(value)
                self.assertEqual(value, before)


class Numbers(unittest.TestCase):

    def test_ordinary_numbers(self):
        for text, wanted in [("0", 0), ("7", 7), ("10", 10), ("38", 38), ("999999", 999999), ("100000", 100000)]:
            self.assertEqual(parse_integer(text), wanted)
            self.assertIs(type(parse_integer(text)), int)

    def test_no_numbers(self):
        for text in ["", " ", "00", "07", "007", "01", "0" * 30, "+7", "-7", "-0", " 7", "7 ", "7\n", "\n7", "1 2",
                     "1_000", "1,000", "1.0", "7.", "0x1", "1e3", "a", "7a", "a7", "7/", "7:", "/", ":", "\u0663",
                     "\u00b2", "1\u0663"]:
            self.assertIsNone(parse_integer(text), text)

    def test_bounds(self):
        self.assertEqual(parse_integer("999999"), 999999)
        self.assertIsNone(parse_integer("1000000"))
        self.assertEqual(parse_integer("38", high=38), 38)
        self.assertIsNone(parse_integer("39", high=38))
        self.assertEqual(parse_integer("5", low=5), 5)
        self.assertIsNone(parse_integer("4", low=5))
        self.assertEqual(parse_integer("0", low=-3, high=0), 0)
        self.assertIsNone(parse_integer("0", low=-3, high=-1))
        self.assertEqual(parse_integer("1", low=1, high=1), 1)
        self.assertIsNone(parse_integer("5", low=6, high=4))
        self.assertIsNone(parse_integer("0", low=1))

    def test_thirty_digits(self):
        great = 10 ** 30 - 1
        self.assertEqual(parse_integer("9" * 30, high=great), great)
        self.assertEqual(parse_integer("1" + "0" * 29, high=great), 10 ** 29)
        self.assertIsNone(parse_integer("1" + "0" * 30, high=10 ** 40))
        self.assertIsNone(parse_integer("9" * 31, high=10 ** 40))
        self.assertIsNone(parse_integer("9" * 30, high=great - 1))
        self.assertIsNone(parse_integer("1" * 4000, high=10 ** 40))

    def test_things_that_are_no_strings(self):
        for value in odd_values() + [7, [7], ["7"], ("7",), {"7": 7}]:
            self.assertIsNone(parse_integer(value))

    def test_arguments_by_name(self):
        self.assertEqual(parse_integer(text="12", high=12, low=12), 12)
        self.assertEqual(parse_integer("12", high=20, low=2), 12)
        with self.assertRaises(TypeError):
            parse_integer("12", 2)


class Words(unittest.TestCase):

    def test_words_behind_spaces(self):
        for text, wanted in [("a", ["a"]), ("a b", ["a", "b"]), ("ab cd e", ["ab", "cd", "e"]), ("+", ["+"]),
                             ("a+b c", ["a+b", "c"])]:
            self.assertEqual(split_words(text), wanted)

    def test_no_words(self):
        for text in ["", " ", "  ", " a", "a ", "a  b", "a b ", " a b", "a   b", "\n", "a\n", "\na", "a\nb", "a \nb",
                     "a\n b", "a b\n", "a \n b"]:
            self.assertIsNone(split_words(text), text)

    def test_other_separators(self):
        self.assertEqual(split_words("a b+c", separator="+"), ["a b", "c"])
        self.assertEqual(split_words(" + ", separator="+"), [" ", " "])
        self.assertEqual(split_words("  ", separator="+"), ["  "])
        self.assertEqual(split_words(" a", separator="/"), [" a"])
        self.assertEqual(split_words("a.b", separator="."), ["a", "b"])
        self.assertEqual(split_words("axb", separator="x"), ["a", "b"])
        for text in ["+", "a+", "+a", "a++b", "", "a+\n", "a\n+b", "a\n", "++"]:
            self.assertIsNone(split_words(text, separator="+"), text)

    def test_long_texts(self):
        self.assertEqual(split_words("a" * 4000), ["a" * 4000])
        self.assertEqual(split_words("a " * 1999 + "a"), ["a"] * 2000)
        self.assertIsNone(split_words("a " * 2000))
        self.assertIsNone(split_words("a" * 3999 + "\n"))

    def test_things_that_are_no_strings(self):
        for value in odd_values() + [["a b"], ("a", "b"), {"a b": 1}]:
            wanted = [value] if value in ("a", "bytes") else None
            self.assertEqual(split_words(value), wanted)

    def test_a_new_list_each_time(self):
        first = split_words("a b")
        first.append("c")
        self.assertEqual(split_words("a b"), ["a", "b"])
        self.assertIsNot(split_words("a"), split_words("a"))
        self.assertIs(type(split_words("a")), list)

    def test_arguments_by_name(self):
        self.assertEqual(split_words(separator="+", text="a+b"), ["a", "b"])
        with self.assertRaises(TypeError):
            split_words("a+b", "+")


if __name__ == "__main__":
    unittest.main()
