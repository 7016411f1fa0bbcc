"""Promises 31 to 33: texts as lists of bytes and units, read at once and piece by piece."""

import copy
import random
import unittest

from tests.helper import EDGE_CHARS, NO_CHARS, NO_KINDS, ErrorCase, odd_values, utf8, utf16
from threecounts.codecs import Reader, beginning, byte_list, span_at, text_of_bytes, text_of_units, unit_list
from threecounts.errors import (BadSequence, Closed, InvalidBytes, InvalidChar, InvalidChars, InvalidInteger,
                                InvalidKind, InvalidText, InvalidUnits)
from threecounts.texts import Text

KINDS = ["bytes", "units", "chars"]
ENCODERS = {"bytes": utf8, "units": utf16, "chars": list}
SAMPLE = [104, 233, 8364, 128512, 33]
FEW_CHARS = EDGE_CHARS + list(range(0, 55296, 97)) + list(range(57344, 1114112, 997))


def beginnings_of_characters():
    """The characters by their bytes as Python encodes them, and all beginnings of these bytes."""
    codes, begun = {}, set()
    for char in range(1114112):
        if not 55296 <= char < 57344:
            data = chr(char).encode("utf-8")
            codes[data] = char
            for size in range(1, len(data)):
                begun.add(data[:size])
    return codes, begun


CODES, BEGUN = beginnings_of_characters()


def told_bytes(data):
    """What a list of bytes is: its characters, or the index at which it goes wrong, told by Python's own bytes."""
    chars, waiting = [], b""
    for index, item in enumerate(data):
        waiting += bytes([item])
        if waiting in CODES:
            chars.append(CODES[waiting])
            waiting = b""
        elif waiting not in BEGUN:
            return None, index
    return (chars, None) if not waiting else (None, len(data))


def told_units(data):
    """The same for units: a high one must stand ahead of a low one, and a low one behind a high one."""
    chars, high = [], None
    for index, item in enumerate(data):
        is_high, is_low = 0xD800 <= item < 0xDC00, 0xDC00 <= item < 0xE000
        if (high is not None) != is_low:
            return None, index
        if is_high:
            high = item
        elif is_low:
            chars.append(0x10000 + ((high & 0x3FF) << 10 | item & 0x3FF))
            high = None
        else:
            chars.append(item)
    return (chars, None) if high is None else (None, len(data))


class Lists(ErrorCase):

    def check(self, read, told, data):
        chars, wrong = told(data)
        if wrong is None:
            self.assertEqual(read(data).chars(), chars)
        else:
            with self.assertRaises(BadSequence) as caught:
                read(data)
            self.assertEqual(caught.exception.index, wrong, data)

    def test_there_and_back(self):
        texts = [[char] for char in FEW_CHARS] + [[], SAMPLE, EDGE_CHARS, EDGE_CHARS[::-1], [128512] * 120]
        for chars in texts:
            text = Text(chars)
            self.assertEqual(byte_list(text), utf8(chars))
            self.assertEqual(unit_list(text), utf16(chars))
            self.assertEqual(text_of_bytes(byte_list(text)), text)
            self.assertEqual(text_of_units(unit_list(text)), text)
            self.assertEqual(text_of_bytes(tuple(byte_list(text))).chars(), chars)
            self.assertEqual(text_of_units(tuple(unit_list(text))).chars(), chars)

    def test_results_are_texts_and_new_lists(self):
        text = Text(SAMPLE)
        for call in [byte_list, unit_list]:
            first = call(text)
            self.assertIs(type(first), list)
            before = list(first)
            first.append(1)
            self.assertEqual(call(text), before)
        self.assertIs(type(text_of_bytes([])), Text)
        self.assertIs(type(text_of_units([])), Text)

    def test_values_that_are_no_texts(self):
        for call in [byte_list, unit_list]:
            for value in [None, True, 0, "", "ab", [], [65], (), {}, Reader("bytes")]:
                self.raised(InvalidText, {"value": value}, call, value)

    def test_values_that_are_no_lists_of_items(self):
        wrong = [None, True, 0, 65, "", "ab", {}, {1: 2}, Text([]), Text([65]), Reader("bytes"), [None], [True],
                 [False], ["a"], [[65]], [65, ()], (65, "a"), [-1], [65, -1], [10 ** 30], [65] * 489 + [None]]
        for value in wrong + [[256], [65, 128, 256], [255, 256]]:
            self.raised(InvalidBytes, {"value": value}, text_of_bytes, value)
        for value in wrong + [[65536], [55296, 65536], [56320, 65536]]:
            self.raised(InvalidUnits, {"value": value}, text_of_units, value)
        self.raised(BadSequence, {"index": 0}, text_of_bytes, [255])
        self.assertEqual(text_of_units([65535]).chars(), [65535])

    def test_each_first_byte(self):
        for first in range(256):
            self.check(text_of_bytes, told_bytes, [first])
            self.check(text_of_bytes, told_bytes, [104, first, 104])

    def test_each_second_byte_behind_each_first_one(self):
        for first in range(256):
            for second in range(256):
                self.check(text_of_bytes, told_bytes, [first, second])

    def test_bounds_of_the_second_byte(self):
        for first, low, high in [(194, 128, 191), (223, 128, 191), (224, 160, 191), (225, 128, 191), (236, 128, 191),
                                 (237, 128, 159), (238, 128, 191), (239, 128, 191), (240, 144, 191), (241, 128, 191),
                                 (243, 128, 191), (244, 128, 143)]:
            wanted = 2 if first >= 224 else None
            for second in [low, high]:
                if wanted:
                    self.raised(BadSequence, {"index": 2}, text_of_bytes, [first, second])
                else:
                    self.assertEqual(len(text_of_bytes([first, second])), 1)
            for second in [low - 1, high + 1]:
                self.raised(BadSequence, {"index": 1}, text_of_bytes, [first, second])

    def test_first_bytes_that_no_character_has(self):
        for first in [128, 191, 192, 193, 245, 246, 248, 252, 254, 255]:
            self.raised(BadSequence, {"index": 0}, text_of_bytes, [first])
            self.raised(BadSequence, {"index": 2}, text_of_bytes, [195, 169, first, 128, 128])

    def test_third_and_fourth_bytes(self):
        for first, second in [(224, 160), (225, 128), (237, 159), (239, 191), (240, 144), (241, 128), (244, 143)]:
            for third in [0, 127, 128, 191, 192, 255]:
                self.check(text_of_bytes, told_bytes, [first, second, third])
                for fourth in [0, 127, 128, 191, 192, 255]:
                    self.check(text_of_bytes, told_bytes, [first, second, third, fourth])
                    self.check(text_of_bytes, told_bytes, [first, second, third, fourth, 128])

    def test_units_about_the_bounds(self):
        edges = [0, 55295, 55296, 55297, 56319, 56320, 56321, 57342, 57343, 57344, 65535]
        for one in edges:
            self.check(text_of_units, told_units, [one])
            for two in edges:
                self.check(text_of_units, told_units, [one, two])
                for three in edges:
                    self.check(text_of_units, told_units, [one, two, three])

    def test_units_that_stand_alone_or_in_the_wrong_order(self):
        for data, index in [([55296], 1), ([56320], 0), ([104, 55357], 2), ([104, 56832], 1), ([55357, 104], 1),
                            ([55357, 55357], 1), ([56832, 55357], 0), ([55357, 56832, 56832], 2),
                            ([55357, 56832, 55357], 3), ([55357, 55357, 56832], 1), ([55357, 57344], 1)]:
            self.raised(BadSequence, {"index": index}, text_of_units, data)

    def test_lists_that_are_changed(self):
        source = random.Random(31)
        for _ in range(3000):
            chars = [source.choice(EDGE_CHARS) for _ in range(source.randrange(1, 8))]
            for read, told, data, great in [(text_of_bytes, told_bytes, utf8(chars), 255),
                                            (text_of_units, told_units, utf16(chars), 65535)]:
                at = source.randrange(len(data))
                odd = source.choice([data[source.randrange(len(data))], source.randrange(great + 1), 0xD8, 0xDC00])
                odd = min(odd, great)
                for changed in [data[:at] + [odd] + data[at + 1:], data[:at] + data[at + 1:],
                                data[:at] + [data[at]] + data[at:], data[:at] + [odd] + data[at:], data[:at]]:
                    self.check(read, told, changed)

    def test_items_that_are_missing_at_the_end(self):
        for char in EDGE_CHARS:
            for read, data in [(text_of_bytes, utf8([65, char])), (text_of_units, utf16([65, char]))]:
                for size in range(2, len(data)):
                    self.raised(BadSequence, {"index": size}, read, data[:size])

    def test_long_lists(self):
        self.assertEqual(text_of_bytes([240, 159, 152, 128] * 120).chars(), [128512] * 120)
        self.raised(BadSequence, {"index": 480}, text_of_bytes, [240, 159, 152, 128] * 120 + [128])
        self.raised(BadSequence, {"index": 483}, text_of_bytes, [240, 159, 152, 128] * 120 + [240, 159, 152])
        self.raised(BadSequence, {"index": 489}, text_of_units, [65] * 488 + [55296])

    def test_arguments_by_name(self):
        self.assertEqual(byte_list(text=Text([233])), [195, 169])
        self.assertEqual(unit_list(text=Text([233])), [233])
        self.assertEqual(text_of_bytes(items=[195, 169]).chars(), [233])
        self.assertEqual(text_of_units(items=(233,)).chars(), [233])

    def test_arguments_stay_as_they_were(self):
        for read, data in [(text_of_bytes, utf8(SAMPLE)), (text_of_units, utf16(SAMPLE)), (text_of_bytes, [195, 195]),
                           (text_of_units, [56320])]:
            before = copy.deepcopy(data)
            try:
                read(data)
            except BadSequence:
                pass
            self.assertEqual(data, before)

    def test_every_odd_value_is_answered(self):
        for value in odd_values():
            for call, wrong in [(text_of_bytes, InvalidBytes), (text_of_units, InvalidUnits)]:
                if isinstance(value, (list, tuple)) and all([item == 1 and item is not True for item in value]):
                    self.assertEqual(call(value).chars(), list(value))
                else:
                    self.raised(wrong, {"value": value}, call, value)


class Readers(ErrorCase):

    def state(self, reader):
        return [reader.pending(), reader.missing, reader.text().chars(), len(reader)]

    def check_pieces(self, kind, chars, sizes):
        """Feed the items of some characters in pieces, and compare the reader with what it must know then."""
        data = ENCODERS[kind](chars)
        reader, at = Reader(kind), 0
        ends = [len(ENCODERS[kind](chars[:count])) for count in range(len(chars) + 1)]
        known = 0
        for size in sizes + [len(data)]:
            piece = data[at:at + size]
            at += len(piece)
            complete = len([end for end in ends if end <= at]) - 1
            self.assertEqual(reader.feed(tuple(piece) if size % 2 else piece), chars[known:complete])
            known = complete
            waiting = data[ends[complete]:at]
            missing = ends[complete + 1] - at if waiting else 0
            self.assertEqual(self.state(reader), [waiting, missing, chars[:complete], at])
        self.assertEqual(reader.close().chars(), chars)
        self.assertEqual(self.state(reader), [[], 0, chars, len(data)])

    def test_pieces_of_each_size(self):
        for kind in KINDS:
            for size in range(1, 8):
                self.check_pieces(kind, EDGE_CHARS, [size] * 80)
            self.check_pieces(kind, SAMPLE, [])
            self.check_pieces(kind, [], [0, 0])
            self.check_pieces(kind, SAMPLE, [0, 3, 0, 0, 1, 0, 2, 0])

    def test_pieces_of_any_size(self):
        source = random.Random(32)
        for _ in range(300):
            chars = [source.choice(EDGE_CHARS) for _ in range(source.randrange(12))]
            for kind in KINDS:
                self.check_pieces(kind, chars, [source.randrange(5) for _ in range(30)])

    def test_a_new_reader(self):
        for kind in KINDS:
            self.assertEqual(self.state(Reader(kind)), [[], 0, [], 0])
            self.assertEqual(Reader(kind).close(), Text([]))
            self.assertIs(type(Reader(kind).close()), Text)
        self.assertEqual(self.state(Reader(kind="units")), [[], 0, [], 0])

    def test_missing_items(self):
        reader = Reader("bytes")
        steps = [([104], 0), ([195], 1), ([169], 0), ([226], 2), ([130], 1), ([172], 0), ([240], 3), ([159], 2),
                 ([152], 1), ([128], 0)]
        for piece, missing in steps:
            reader.feed(piece)
            self.assertEqual(reader.missing, missing)
        reader = Reader("units")
        for piece, missing in [([104], 0), ([55357], 1), ([56832], 0)]:
            reader.feed(piece)
            self.assertEqual(reader.missing, missing)

    def test_wrong_kinds(self):
        for kind in NO_KINDS:
            self.raised(InvalidKind, {"value": kind}, Reader, kind)

    def test_a_bad_piece_reads_nothing(self):
        for kind, good, bad, index, rest, char in [
                ("bytes", [104, 240, 159], [152, 65], 4, [152, 128], 128512),
                ("bytes", [104, 240, 159], [65], 3, [152, 128], 128512),
                ("bytes", [104, 224], [128, 128], 2, [160, 128], 2048),
                ("bytes", [65, 244], [143, 191, 191, 66, 244, 144], 7, [143, 191, 191], 1114111),
                ("bytes", [104, 195], [169, 255], 3, [169], 233),
                ("units", [104, 55357], [56832, 56832], 3, [56832], 128512),
                ("units", [104, 55357], [104], 2, [56832], 128512),
                ("units", [104, 55357], [55357], 2, [56832], 128512)]:
            reader = Reader(kind)
            reader.feed(good)
            before = self.state(reader)
            for _ in range(3):
                self.raised(BadSequence, {"index": index}, reader.feed, bad)
                self.assertEqual(self.state(reader), before)
            self.assertEqual(reader.feed([]), [])
            self.assertEqual(self.state(reader), before)
            self.assertEqual(reader.feed(rest), [char])
            self.assertEqual(reader.close().chars(), [good[0], char])

    def test_bad_pieces_are_not_counted(self):
        reader = Reader("bytes")
        self.raised(BadSequence, {"index": 2}, reader.feed, [104, 105, 255])
        self.assertEqual(self.state(reader), [[], 0, [], 0])
        self.raised(BadSequence, {"index": 0}, reader.feed, [128])
        self.assertEqual(reader.feed([104, 105, 106]), [104, 105, 106])
        self.raised(BadSequence, {"index": 4}, reader.feed, [107, 255])
        self.assertEqual(self.state(reader), [[], 0, [104, 105, 106], 3])

    def test_pieces_that_are_no_lists_of_items(self):
        wrong = [None, True, 0, "", "ab", {}, Text([]), Text([65]), Reader("bytes"), [None], [65, True], [[65]], [-1]]
        for kind, error, good, great in [("bytes", InvalidBytes, [226], 256), ("units", InvalidUnits, [55357], 65536)]:
            reader = Reader(kind)
            reader.feed(good)
            before = self.state(reader)
            for value in wrong + [[great], [255, great], (65, great)]:
                self.raised(error, {"value": value}, reader.feed, value)
                self.assertEqual(self.state(reader), before)

    def test_pieces_that_are_no_lists_of_characters(self):
        reader = Reader("chars")
        reader.feed([65])
        for value in [None, True, 0, "", "ab", {}, Text([]), Text([65]), Reader("bytes")]:
            self.raised(InvalidChars, {"value": value}, reader.feed, value)
        for odd in NO_CHARS:
            self.raised(InvalidChar, {"value": odd}, reader.feed, [66, odd, None])
        self.assertEqual(self.state(reader), [[], 0, [65], 1])
        self.assertEqual(reader.feed(items=(128512,)), [128512])

    def test_close_with_items_that_wait(self):
        for kind, pieces in [("bytes", [[104, 240], [159], [152]]), ("units", [[104, 55357]])]:
            reader, size = Reader(kind), 0
            for piece in pieces:
                reader.feed(piece)
                size += len(piece)
                before = self.state(reader)
                self.raised(BadSequence, {"index": size}, reader.close)
                self.assertEqual(self.state(reader), before)
            reader.feed([128] if kind == "bytes" else [56832])
            self.assertEqual(reader.close().chars(), [104, 128512])

    def test_a_closed_reader(self):
        for kind in KINDS:
            reader = Reader(kind)
            reader.feed(ENCODERS[kind](SAMPLE))
            reader.close()
            before = self.state(reader)
            for value in [[65], [], (), None, [None], [255], "x"]:
                self.raised(Closed, {}, reader.feed, value)
            self.raised(Closed, {}, reader.close)
            self.raised(Closed, {}, reader.close)
            self.assertEqual(self.state(reader), before)
            self.assertEqual(reader.text().chars(), SAMPLE)

    def test_what_was_passed_in_may_be_changed(self):
        for kind in KINDS:
            reader, piece = Reader(kind), [104]
            reader.feed(piece)
            piece.append(105)
            self.assertEqual(self.state(reader), [[], 0, [104], 1])
        reader, piece = Reader("bytes"), [104, 226, 130]
        reader.feed(piece)
        piece.pop()
        self.assertEqual(self.state(reader), [[226, 130], 1, [104], 3])

    def test_what_was_returned_may_be_changed(self):
        reader = Reader("bytes")
        fed = reader.feed([104, 226, 130])
        fed.append(0)
        waiting = reader.pending()
        waiting.append(172)
        chars = reader.text().chars()
        chars.append(5)
        self.assertEqual(self.state(reader), [[226, 130], 1, [104], 3])
        self.assertIsNot(reader.pending(), reader.pending())
        self.assertEqual(reader.feed([172]), [8364])
        self.assertEqual(reader.text().chars(), [104, 8364])

    def test_a_text_from_a_reader_stays(self):
        reader = Reader("units")
        reader.feed([104])
        text = reader.text()
        reader.feed([105])
        self.assertEqual([text.chars(), reader.text().chars()], [[104], [104, 105]])

    def test_arguments_stay_as_they_were(self):
        reader = Reader("bytes")
        for piece in [[104, 226], [130], [172]]:
            before = list(piece)
            reader.feed(piece)
            self.assertEqual(piece, before)

    def test_readers_equal_only_themselves(self):
        reader = Reader("bytes")
        self.assertTrue(reader == reader)
        self.assertFalse(reader == Reader("bytes"))
        self.assertIs(type(repr(reader)), str)
        self.assertEqual(repr(reader), repr(reader))


class Beginnings(ErrorCase):

    def longest(self, data, told):
        return max([size for size in range(len(data) + 1) if told(data[:size])[1] is None])

    def check(self, kind, told, data):
        size = self.longest(data, told)
        text, number = beginning(data, kind)
        self.assertEqual([text.chars(), number], [told(data[:size])[0], size])

    def test_the_longest_good_beginning(self):
        for data, number, chars in [([195, 169, 226, 130, 65], 2, [233]), ([], 0, []), ([255], 0, []),
                                    ([104, 195], 1, [104]), ([104, 195, 169], 3, [104, 233]),
                                    ([104, 224, 128, 128], 1, [104]), ([240, 159, 152], 0, []),
                                    ([65, 128, 65, 65], 1, [65])]:
            result = beginning(data, "bytes")
            self.assertIs(type(result), tuple)
            self.assertEqual([result[0].chars(), result[1]], [chars, number])
            self.assertIs(type(result[0]), Text)
        for data, number in [([104, 55357], 1), ([55357, 56832, 56832], 2), ([56832], 0), ([55357, 55357, 56832], 0)]:
            self.assertEqual(beginning(data, "units")[1], number)

    def test_each_list_of_characters_is_good(self):
        for chars in [[], SAMPLE, EDGE_CHARS]:
            for given in [chars, tuple(chars)]:
                text, number = beginning(given, "chars")
                self.assertEqual([text.chars(), number], [chars, len(chars)])

    def test_lists_that_are_changed(self):
        source = random.Random(33)
        for _ in range(1000):
            chars = [source.choice(EDGE_CHARS) for _ in range(source.randrange(1, 7))]
            for kind, told, great in [("bytes", told_bytes, 255), ("units", told_units, 65535)]:
                data = ENCODERS[kind](chars)
                self.check(kind, told, data)
                at = source.randrange(len(data))
                self.check(kind, told, data[:at])
                self.check(kind, told, data[:at] + data[at + 1:])
                self.check(kind, told, data[:at] + [source.randrange(great + 1)] + data[at + 1:])

    def test_the_span_of_each_index(self):
        for kind in KINDS:
            for chars in [EDGE_CHARS, EDGE_CHARS[::-1], [128512], [65], SAMPLE]:
                data, start = ENCODERS[kind](chars), 0
                for char in chars:
                    end = start + len(ENCODERS[kind]([char]))
                    for index in range(start, end):
                        self.assertEqual(span_at(data, index, kind), (start, end, char))
                        self.assertEqual(span_at(tuple(data), index, kind), (start, end, char))
                    start = end
        self.assertIs(type(span_at([65], 0, "bytes")), tuple)

    def test_an_index_that_does_not_exist(self):
        for kind in KINDS:
            data = ENCODERS[kind](SAMPLE)
            for index in [-1, len(data), len(data) + 1, 10 ** 30, -10 ** 30, True, False, None, "0", [0], (), Text([])]:
                self.raised(InvalidInteger, {"value": index}, span_at, data, index, kind)
            for index in [0, -1, 1, None]:
                self.raised(InvalidInteger, {"value": index}, span_at, [], index, kind)

    def test_lists_that_are_not_good(self):
        for index in [0, 1, 99, -1, None]:
            self.raised(BadSequence, {"index": 2}, span_at, [104, 195, 195, 169], index, "bytes")
            self.raised(BadSequence, {"index": 3}, span_at, [104, 240, 159], index, "bytes")
            self.raised(BadSequence, {"index": 2}, span_at, [104, 55357], index, "units")
            self.raised(BadSequence, {"index": 0}, span_at, [56832, 104], index, "units")

    def test_wrong_lists(self):
        for value in [None, True, 0, "", "ab", {}, Text([]), Text([65]), Reader("bytes")]:
            for kind, error in [("bytes", InvalidBytes), ("units", InvalidUnits), ("chars", InvalidChars)]:
                self.raised(error, {"value": value}, beginning, value, kind)
                self.raised(error, {"value": value}, span_at, value, None, kind)
        for kind, error, great in [("bytes", InvalidBytes, 256), ("units", InvalidUnits, 65536)]:
            for value in [[great], [255, great], [True], [None], [56320, "a"], (65, -1), [[65]]]:
                self.raised(error, {"value": value}, beginning, value, kind)
                self.raised(error, {"value": value}, span_at, value, 0, kind)
        for odd in NO_CHARS:
            self.raised(InvalidChar, {"value": odd}, beginning, [65, odd, None], "chars")
            self.raised(InvalidChar, {"value": odd}, span_at, [65, odd, None], 0, "chars")

    def test_a_wrong_kind_comes_first(self):
        for kind in NO_KINDS:
            for value in [None, [255], [65], [256]]:
                self.raised(InvalidKind, {"value": kind}, beginning, value, kind)
                self.raised(InvalidKind, {"value": kind}, span_at, value, None, kind)

    def test_arguments_by_name(self):
        self.assertEqual(beginning(kind="bytes", items=[65, 255])[1], 1)
        self.assertEqual(span_at(kind="units", index=1, items=[55357, 56832]), (0, 2, 128512))

    def test_arguments_stay_as_they_were(self):
        data = utf8(SAMPLE) + [255]
        before = list(data)
        beginning(data, "bytes")
        self.raised(BadSequence, {"index": len(data) - 1}, span_at, data, 0, "bytes")
        self.assertEqual(data, before)


if __name__ == "__main__":
    unittest.main()
