"""Promises 21 to 24: characters in each kind, and texts."""

import copy
import random
import unittest

from tests.helper import EDGE_CHARS, NO_CHARS, NO_KINDS, ErrorCase, is_plain_integer, odd_values, utf8, utf16
from threecounts.codecs import Reader
from threecounts.errors import BadPlace, InvalidChar, InvalidChars, InvalidKind, InvalidText
from threecounts.texts import Text, compare, items, joined, width

KINDS = ["bytes", "units", "chars"]
SAMPLE = [104, 8364, 128512]


class Characters(ErrorCase):

    def test_width_at_the_bounds(self):
        for char, in_bytes, in_units in [(0, 1, 1), (127, 1, 1), (128, 2, 1), (2047, 2, 1), (2048, 3, 1),
                                         (55295, 3, 1), (57344, 3, 1), (65535, 3, 1), (65536, 4, 2), (1114111, 4, 2)]:
            self.assertEqual([width(char, kind) for kind in KINDS], [in_bytes, in_units, 1])

    def test_items_at_the_bounds(self):
        for char, in_bytes, in_units in [
                (0, [0], [0]), (127, [127], [127]), (128, [194, 128], [128]), (2047, [223, 191], [2047]),
                (2048, [224, 160, 128], [2048]), (55295, [237, 159, 191], [55295]),
                (57344, [238, 128, 128], [57344]), (65535, [239, 191, 191], [65535]),
                (65536, [240, 144, 128, 128], [55296, 56320]), (1114111, [244, 143, 191, 191], [56319, 57343])]:
            self.assertEqual([items(char, kind) for kind in KINDS], [in_bytes, in_units, [char]])

    def test_items_and_width_everywhere(self):
        chars = [char for char in range(0, 1114112, 61) if not 55296 <= char < 57344] + EDGE_CHARS
        for char in chars:
            for kind, wanted in [("bytes", utf8([char])), ("units", utf16([char])), ("chars", [char])]:
                self.assertEqual(items(char, kind), wanted)
                self.assertEqual(width(char, kind), len(wanted))

    def test_a_new_list_each_time(self):
        for kind in KINDS:
            for char in [65, 8364, 128512]:
                first = items(char, kind)
                first.append(0)
                first[0] = 0
                self.assertEqual(items(char, kind), {"bytes": utf8, "units": utf16, "chars": list}[kind]([char]))

    def test_wrong_characters(self):
        for call in [width, items]:
            for char in NO_CHARS:
                self.raised(InvalidChar, {"value": char}, call, char, "bytes")

    def test_wrong_kinds(self):
        for call in [width, items]:
            for kind in NO_KINDS:
                self.raised(InvalidKind, {"value": kind}, call, 8364, kind)

    def test_a_wrong_character_comes_before_a_wrong_kind(self):
        for call in [width, items]:
            for char in NO_CHARS:
                self.raised(InvalidChar, {"value": char}, call, char, "char")

    def test_arguments_by_name(self):
        self.assertEqual(width(kind="units", char=128512), 2)
        self.assertEqual(items(kind="bytes", char=233), [195, 169])


class Texts(ErrorCase):

    def test_chars_of_lists_and_tuples(self):
        for chars in [[], [0], SAMPLE, EDGE_CHARS, [8364] * 120, [65] * 600]:
            for given in [chars, tuple(chars)]:
                text = Text(given)
                self.assertEqual(text.chars(), chars)
                self.assertIs(type(text.chars()), list)
                self.assertEqual(len(text), len(chars))
        self.assertEqual(Text(chars=[104]).chars(), [104])

    def test_counts(self):
        for chars in [[], [0], SAMPLE, EDGE_CHARS, [128512] * 600]:
            text = Text(chars)
            wanted = [len(utf8(chars)), len(utf16(chars)), len(chars)]
            self.assertEqual([text.in_bytes, text.in_units, text.in_chars], wanted)
            self.assertEqual([text.count(kind) for kind in KINDS], wanted)
        self.assertEqual(text.count(kind="units"), 1200)
        self.assertEqual([Text(SAMPLE).in_bytes, Text(SAMPLE).in_units, Text(SAMPLE).in_chars], [8, 4, 3])

    def test_wrong_kinds(self):
        for kind in NO_KINDS:
            self.raised(InvalidKind, {"value": kind}, Text(SAMPLE).count, kind)

    def test_no_lists(self):
        for value in [None, True, False, 0, 65, "", "ab", {}, {65: 66}, Text([]), Text([65]), Reader("chars")]:
            self.raised(InvalidChars, {"value": value}, Text, value)

    def test_the_first_item_that_is_no_character(self):
        for odd in NO_CHARS:
            for chars in [[odd], [odd, "b"], [65, odd, None], [65] * 119 + [odd], (65, odd)]:
                self.raised(InvalidChar, {"value": odd}, Text, chars)

    def test_index(self):
        text = Text(EDGE_CHARS)
        for index, char in enumerate(EDGE_CHARS):
            self.assertEqual(text[index], char)
        for index in [-1, len(EDGE_CHARS), len(EDGE_CHARS) + 1, 10 ** 30, -10 ** 30, True, False, None, "0", [0],
                      (0, 1), slice(0, 1), slice(None), {}, text]:
            self.raised(BadPlace, {"number": index}, lambda: text[index])
        for index in [0, -1, 1]:
            self.raised(BadPlace, {"number": index}, lambda: Text([])[index])

    def test_iteration(self):
        for chars in [[], SAMPLE, EDGE_CHARS]:
            text = Text(chars)
            self.assertEqual([char for char in text], chars)
            self.assertEqual([(one, other) for one in text for other in text],
                             [(one, other) for one in chars for other in chars])

    def test_all_parts(self):
        chars = [104, 8364, 128512, 10, 233]
        text = Text(chars)
        for start in range(6):
            for end in range(start, 6):
                part = text.part(start, end)
                self.assertIs(type(part), Text)
                self.assertEqual(part.chars(), chars[start:end])
        self.assertEqual(text.part(end=3, start=1).chars(), [8364, 128512])
        self.assertEqual(Text([]).part(0, 0).chars(), [])

    def test_parts_that_do_not_exist(self):
        text = Text(SAMPLE)
        for odd in [-1, 4, 10 ** 30, -10 ** 30, True, False, None, "1", [1], (), text]:
            self.raised(BadPlace, {"number": odd}, text.part, odd, 3)
            self.raised(BadPlace, {"number": odd}, text.part, odd, "x")
            self.raised(BadPlace, {"number": odd}, text.part, 0, odd)
        self.raised(BadPlace, {"number": 1}, text.part, 2, 1)
        self.raised(BadPlace, {"number": 2}, text.part, 3, 2)
        self.raised(BadPlace, {"number": 0}, text.part, 1, 0)
        self.raised(BadPlace, {"number": 5}, text.part, 5, 6)
        self.raised(BadPlace, {"number": 1}, Text([]).part, 0, 1)

    def test_what_was_passed_in_may_be_changed(self):
        chars = [104, 8364]
        text = Text(chars)
        chars.append(65)
        chars[0] = 66
        self.assertEqual(text.chars(), [104, 8364])
        self.assertEqual(text.in_bytes, 4)

    def test_what_was_returned_may_be_changed(self):
        text = Text(SAMPLE)
        first = text.chars()
        first.append(65)
        first[0] = 66
        self.assertEqual(text.chars(), SAMPLE)
        self.assertIsNot(text.chars(), text.chars())
        part = text.part(0, 3)
        part.chars().append(1)
        self.assertEqual([part.chars(), text.chars()], [SAMPLE, SAMPLE])

    def test_a_text_never_changes(self):
        text, before = Text(SAMPLE), repr(Text(SAMPLE))
        for call in [lambda: text.part(9, 9), lambda: text[3], lambda: text + 5, lambda: text.count("x"),
                     lambda: text + [None], lambda: [None] + text]:
            with self.assertRaises(ValueError):
                call()
        one = text
        one += [33]
        self.assertEqual(one.chars(), SAMPLE + [33])
        self.assertEqual(text.chars(), SAMPLE)
        self.assertEqual(repr(text), before)
        self.assertIs(type(repr(text)), str)


class Together(ErrorCase):

    def test_a_character_in_a_text(self):
        text = Text(SAMPLE)
        for char in SAMPLE:
            self.assertIs(char in text, True)
        for value in EDGE_CHARS + NO_CHARS:
            self.assertIs(value in text, is_plain_integer(value) and value in SAMPLE)
        self.assertIs(0 in Text([]), False)

    def test_true_and_false_are_no_characters_of_a_text(self):
        self.assertIs(True in Text([0, 1]), False)
        self.assertIs(False in Text([0, 1]), False)
        self.assertIs([True] in Text([0, 1]), False)
        self.assertIs([0, True] in Text([0, 1]), False)

    def test_runs_of_characters_in_a_text(self):
        chars = [1, 2, 1, 2, 3]
        text = Text(chars)
        runs = [chars[start:end] for start in range(6) for end in range(start, 6)]
        others = [[one, other] for one in range(4) for other in range(4)]
        others += [[1, 2, 3, 4], [1, 2, 1, 2, 3, 1], [2, 1, 3], [3, 1], [1, 3], [2, 2, 2, 2, 2, 2], [1, 1, 2]]
        for run in runs + others:
            for value in [run, tuple(run), Text(run)]:
                self.assertIs(value in text, run in runs)

    def test_empty_runs(self):
        for text in [Text([]), Text(SAMPLE)]:
            for value in [[], (), Text([])]:
                self.assertIs(value in text, True)
        self.assertIs([1] in Text([]), False)
        self.assertIs(Text([1]) in Text([]), False)

    def test_any_other_value_is_in_no_text(self):
        text = Text([0, 1, 65])
        for value in [None, True, "", "A", {}, {65: 1}, [None], [65, None], [[65]], [Text([65])], (65, "a"),
                      Reader("chars"), 10 ** 30, -1, 1114112]:
            self.assertIs(value in text, False)
            self.assertIs(value in Text([]), False)

    def test_sums(self):
        for one in [[], [104], SAMPLE, EDGE_CHARS]:
            for other in [[], [33], [128512, 8364]]:
                wanted = one + other
                for total in [Text(one) + Text(other), Text(one) + other, Text(one) + tuple(other),
                              one + Text(other), tuple(one) + Text(other)]:
                    self.assertIs(type(total), Text)
                    self.assertEqual(total.chars(), wanted)

    def test_sums_leave_their_operands(self):
        text, other = Text([1]), [2]
        total = text + other
        other.append(3)
        self.assertEqual([total.chars(), text.chars(), other], [[1, 2], [1], [2, 3]])
        self.assertEqual([([2, 3] + text).chars(), text.chars()], [[2, 3, 1], [1]])

    def test_sums_with_any_other_value(self):
        text = Text(SAMPLE)
        for value in [None, True, False, 0, 65, "", "ab", {}, {65: 66}, Reader("chars"), [None], [65, True],
                      [65, 55296], [[65]], (65, -1), [Text([65])], (text,)]:
            self.raised(InvalidChars, {"value": value}, lambda: text + value)
            self.raised(InvalidChars, {"value": value}, lambda: value + text)

    def test_joined(self):
        self.assertEqual(joined().chars(), [])
        self.assertIs(type(joined()), Text)
        self.assertEqual(joined(Text(SAMPLE)).chars(), SAMPLE)
        self.assertEqual(joined(Text([1]), Text([]), Text([2, 3]), Text([4])).chars(), [1, 2, 3, 4])
        text = Text([5])
        self.assertEqual(joined(text, text, text).chars(), [5, 5, 5])
        self.assertEqual(joined(*[Text([at]) for at in range(100)]).chars(), list(range(100)))

    def test_joined_with_something_else(self):
        text = Text([1])
        for value in [None, True, 0, "", [], [65], (), {}, Reader("chars"), [text]]:
            self.raised(InvalidText, {"value": value}, joined, value)
            self.raised(InvalidText, {"value": value}, joined, text, value, "later")
            self.raised(InvalidText, {"value": value}, joined, text, text, value)

    def test_equality(self):
        chars = [[], [0], [1], [1, 2], [2, 1], SAMPLE, SAMPLE[:2], EDGE_CHARS]
        for one in chars:
            for other in chars:
                self.assertIs(Text(one) == Text(other), one == other)
                self.assertIs(Text(one) != Text(other), one != other)
        self.assertTrue(Text(SAMPLE) == Text(tuple(SAMPLE)))

    def test_equality_with_other_things(self):
        for text in [Text([]), Text([1]), Text(SAMPLE)]:
            for value in [None, True, 0, 1, "", [], (), [1], (1,), SAMPLE, tuple(SAMPLE), {}, Reader("chars"), [text]]:
                self.assertIs(text == value, False)
                self.assertIs(value == text, False)
                self.assertIs(text != value, True)


class Order(ErrorCase):

    def check(self, one, other):
        first, second = Text(one), Text(other)
        self.assertIs(first < second, one < other)
        self.assertIs(second > first, one < other)
        self.assertIs(first > second, one > other)
        self.assertIs(second < first, one > other)
        for kind, make in [("bytes", utf8), ("units", utf16), ("chars", list)]:
            wanted = (make(one) > make(other)) - (make(one) < make(other))
            self.assertEqual(compare(first, second, kind), wanted)
            self.assertEqual(compare(second, first, kind), -wanted)
        self.assertEqual(compare(first, second, "bytes"), compare(first, second, "chars"))

    def test_texts_that_begin_alike(self):
        chars = [[], [0], [1], [1, 0], [1, 1], [1, 0, 5], [1, 2], [2], [8364], [8364, 0], [8364, 128512], [128512, 1],
                 [128512]]
        for one in chars:
            for other in chars:
                self.check(one, other)

    def test_characters_at_the_bounds(self):
        for one in EDGE_CHARS:
            for other in EDGE_CHARS:
                self.check([one], [other])
                self.check([7, one], [7, other, 0])

    def test_units_order_otherwise(self):
        for one in [57344, 57345, 65535]:
            for other in [65536, 128512, 1114111]:
                self.assertEqual([compare(Text([one]), Text([other]), kind) for kind in KINDS], [-1, 1, -1])
        self.assertEqual([compare(Text([55295]), Text([65536]), kind) for kind in KINDS], [-1, -1, -1])

    def test_many_texts(self):
        source = random.Random(24)
        for _ in range(400):
            one, other = [[source.choice(EDGE_CHARS) for _ in range(source.randrange(5))] for _ in range(2)]
            self.check(one, other)

    def test_wrong_arguments_in_their_order(self):
        text = Text([1])
        for value in [None, True, 0, "", [], [65], (), {}, Reader("chars")]:
            self.raised(InvalidText, {"value": value}, compare, value, None, None)
            self.raised(InvalidText, {"value": value}, compare, value, text, "bytes")
            self.raised(InvalidText, {"value": value}, compare, text, value, None)
            self.raised(InvalidText, {"value": value}, compare, text, value, "bytes")
        for kind in NO_KINDS:
            self.raised(InvalidKind, {"value": kind}, compare, text, text, kind)

    def test_arguments_by_name(self):
        self.assertEqual(compare(kind="chars", other=Text([1]), one=Text([2])), 1)

    def test_arguments_stay_as_they_were(self):
        one, other = Text(SAMPLE), Text(EDGE_CHARS)
        before = copy.deepcopy([one.chars(), other.chars()])
        for kind in KINDS:
            compare(one, other, kind)
        joined(one, other)
        self.assertEqual([one.chars(), other.chars()], before)


class AnyValue(ErrorCase):

    def test_every_odd_value_is_answered(self):
        for value in odd_values():
            self.assertIn(value in Text([1, 2]), [True, False])
            self.assertIn(Text([1]) == value, [True, False])


if __name__ == "__main__":
    unittest.main()
