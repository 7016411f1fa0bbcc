"""Promises 51 to 54: lines, rows and columns."""

import random
import re
import unittest

from tests.helper import (KINDS, NO_KINDS, ErrorCase, counts_after, is_plain_integer, no_integers, no_texts, odd_values,
                          random_chars, utf16, utf8)
from threecounts.deltas import Delta
from threecounts.errors import BadPlace, InvalidChars, InvalidFlag, InvalidKind, InvalidText, MidChar
from threecounts.lines import Lines, split_lines, text_width, unifying
from threecounts.texts import Text

SAMPLE = [97, 13, 10, 8364, 128512, 13, 98]
SAMPLES = [[], [97], [10], [13], [13, 10], [10, 13], [10, 10], [13, 13], [13, 13, 10], [13, 10, 10], [13, 10, 13, 10],
           [10, 13, 10, 13], [13, 10, 13], [97, 10], [10, 97], [97, 13], [13, 97], [97, 13, 10], [13, 10, 97],
           [128512, 10, 128512, 8364, 13, 233], [12, 8232, 133, 11], SAMPLE]
ENDINGS = [[10], [13], [13, 10]]
HUGE = 10 ** 30


def pieces(chars):
    """Tuples of the characters of each line and those that end it, found by a regular expression."""
    string = "".join([chr(char) for char in chars])
    parts = re.split("(\r\n|\r|\n)", string) + [""]
    return [([ord(char) for char in parts[at]], [ord(char) for char in parts[at + 1]])
            for at in range(0, len(parts), 2)]


def starts(chars):
    """After how many characters each line begins."""
    found = [0]
    for line, ending in pieces(chars)[:-1]:
        found.append(found[-1] + len(line) + len(ending))
    return found


def samples():
    source = random.Random(51)
    return SAMPLES + [random_chars(source, 14) for _ in range(60)]


class LinesOfTexts(ErrorCase):

    def test_lines_and_their_ends(self):
        for chars in samples():
            text = Text(chars)
            lines = Lines(text)
            wanted = pieces(chars)
            self.assertEqual(len(lines), len(wanted))
            self.assertEqual([line.chars() for line in split_lines(text)], [line for line, _ in wanted])
            counts = counts_after(chars)
            for row, (line, ending) in enumerate(wanted):
                self.assertIs(type(lines.line(row)), Text)
                self.assertEqual(lines.line(row).chars(), line)
                self.assertEqual(lines.ending(row), ending)
                for kind in KINDS:
                    self.assertEqual(lines.row_start(row, kind), counts[kind][starts(chars)[row]])

    def test_examples_by_hand(self):
        for chars, wanted in [([], [[]]), ([10], [[], []]), ([13, 10], [[], []]), ([10, 13], [[], [], []]),
                              ([13, 13, 10], [[], [], []]), ([97, 13, 10, 98, 10], [[97], [98], []])]:
            self.assertEqual([line.chars() for line in split_lines(Text(chars))], wanted)
        empty = Lines(Text([]))
        self.assertEqual([empty.line(0).chars(), empty.ending(0), len(empty)], [[], [], 1])

    def test_new_lists_each_time(self):
        lines = Lines(Text(SAMPLE))
        lines.ending(0).append(1)
        self.assertEqual(lines.ending(0), [13, 10])
        split_lines(Text(SAMPLE)).append(1)
        self.assertEqual(len(split_lines(Text(SAMPLE))), 3)

    def test_no_text(self):
        for value in no_texts():
            for call in [Lines, split_lines, text_width]:
                self.raised(InvalidText, {"value": value}, call, value)
            self.raised(InvalidText, {"value": value}, unifying, value, None)

    def test_no_row_comes_before_the_kind(self):
        lines = Lines(Text(SAMPLE))
        for value in no_integers() + [-1, 3, 4, HUGE, -HUGE]:
            self.raised(BadPlace, {"number": value}, lines.line, value)
            self.raised(BadPlace, {"number": value}, lines.ending, value)
            self.raised(BadPlace, {"number": value}, lines.row_start, value, "x")
        for kind in NO_KINDS:
            self.raised(InvalidKind, {"value": kind}, lines.row_start, 0, kind)
        self.raised(BadPlace, {"number": 1}, Lines(Text([])).line, 1)

    def test_equality(self):
        lines = Lines(Text(SAMPLE))
        self.assertTrue(lines == Lines(Text(list(SAMPLE))))
        self.assertFalse(lines != Lines(Text(SAMPLE)))
        for chars in [[], SAMPLE[:-1], SAMPLE + [97], [97, 10, 8364, 128512, 13, 98]]:
            self.assertFalse(lines == Lines(Text(chars)))
        for value in odd_values() + [Text(SAMPLE)]:
            self.assertIs(lines == value, False)
            self.assertIs(value == lines, False)

    def test_arguments_by_name(self):
        lines = Lines(text=Text(SAMPLE))
        self.assertEqual(lines.line(row=1).chars(), [8364, 128512])
        self.assertEqual(lines.ending(row=1), [13])
        self.assertEqual(lines.row_start(kind="bytes", row=2), 11)
        self.assertEqual(lines.position(columns="units", kind="bytes", number=10), (1, 3))
        self.assertEqual(lines.column_in(other="units", kind="bytes", column=7, row=1), 3)
        self.assertEqual(lines.number_at(clamp=True, kind="chars", column=9, row=9), 7)
        self.assertEqual(len(split_lines(text=Text(SAMPLE))), 3)
        self.assertEqual(unifying(ending=[13], text=Text([10])).rows(), [("put", [13]), ("drop", 1)])
        self.assertEqual(text_width(text=Text([97])), {"bytes": 1, "units": 1, "chars": 1})
        with self.assertRaises(TypeError):
            lines.position(10, "bytes", "units")
        with self.assertRaises(TypeError):
            lines.number_at(1, 1, "bytes", True)


class RowsAndColumns(ErrorCase):

    def test_position_of_every_number(self):
        for chars in samples():
            lines = Lines(Text(chars))
            counts = counts_after(chars)
            for kind in KINDS:
                for number in range(-2, counts[kind][-1] + 3):
                    for columns in [None] + KINDS:
                        self.check_position(lines, chars, number, kind, columns)

    def check_position(self, lines, chars, number, kind, columns):
        places = counts_after(chars)[kind]
        call = (lines.position, number, kind)
        if not 0 <= number <= places[-1]:
            self.raised(BadPlace, {"number": number}, *call, columns=columns)
        elif number not in places:
            start = max([place for place in places if place < number])
            end = min([place for place in places if place > number])
            self.raised(MidChar, {"number": number, "start": start, "end": end}, *call, columns=columns)
        else:
            ahead = places.index(number)
            row = max([row for row, start in enumerate(starts(chars)) if start <= ahead])
            line = pieces(chars)[row][0]
            many = min(ahead - starts(chars)[row], len(line))
            wanted = (row, counts_after(line)[columns or kind][many])
            self.assertEqual(lines.position(number, kind, columns=columns), wanted)
            if columns == kind:
                self.assertEqual(lines.position(number, kind), wanted)

    def test_between_13_and_10(self):
        lines = Lines(Text([8364, 13, 10, 97]))
        self.assertEqual([lines.position(number, "chars") for number in range(5)],
                         [(0, 0), (0, 1), (0, 1), (1, 0), (1, 1)])
        self.assertEqual(lines.position(4, "bytes"), (0, 3))
        self.assertEqual(lines.position(2, "units", columns="bytes"), (0, 3))

    def test_position_refuses_in_its_order(self):
        lines = Lines(Text(SAMPLE))
        for kind in NO_KINDS:
            self.raised(InvalidKind, {"value": kind}, lines.position, "x", kind, columns="x")
            if kind is not None:
                self.raised(InvalidKind, {"value": kind}, lines.position, "x", "bytes", columns=kind)
        for value in no_integers() + [HUGE, -HUGE]:
            for columns in [None, "units"]:
                self.raised(BadPlace, {"number": value}, lines.position, value, "bytes", columns=columns)

    def test_every_column(self):
        for chars in samples():
            lines = Lines(Text(chars))
            for row, (line, _) in enumerate(pieces(chars)):
                counts = counts_after(line)
                for kind in KINDS:
                    for column in range(-2, counts[kind][-1] + 4):
                        self.check_column(lines, chars, row, column, kind)

    def check_column(self, lines, chars, row, column, kind):
        counts = counts_after(pieces(chars)[row][0])
        places = counts[kind]
        call = (lines.number_at, row, column, kind)
        calls = [call] + [(lines.column_in, row, column, kind, other) for other in KINDS]
        begin = starts(chars)[row]
        fitting = [ahead for ahead, place in enumerate(places) if place <= column]
        clamped = counts_after(chars)[kind][begin + (fitting[-1] if fitting else 0)]
        self.assertEqual(lines.number_at(row, column, kind, clamp=True), clamped)
        if not 0 <= column <= places[-1]:
            for each in calls:
                self.raised(BadPlace, {"number": column}, *each)
            self.raised(BadPlace, {"number": column}, *call, clamp=False)
        elif column not in places:
            start = max([place for place in places if place < column])
            end = min([place for place in places if place > column])
            for each in calls:
                self.raised(MidChar, {"number": column, "start": start, "end": end}, *each)
        else:
            ahead = places.index(column)
            self.assertEqual(lines.number_at(row, column, kind), counts_after(chars)[kind][begin + ahead])
            self.assertEqual(lines.number_at(row, column, kind, clamp=False), clamped)
            for other in KINDS:
                self.assertEqual(lines.column_in(row, column, kind, other), counts[other][ahead])

    def test_there_and_back(self):
        for chars in samples():
            lines = Lines(Text(chars))
            for kind in KINDS:
                for row, (line, _) in enumerate(pieces(chars)):
                    for column in counts_after(line)[kind]:
                        self.assertEqual(lines.position(lines.number_at(row, column, kind), kind), (row, column))

    def test_clamped_rows(self):
        for chars in samples():
            lines = Lines(Text(chars))
            last = len(lines) - 1
            for kind in KINDS:
                for column in range(-1, 9):
                    first = lines.number_at(0, column, kind, clamp=True)
                    end = lines.number_at(last, column, kind, clamp=True)
                    self.assertEqual([lines.number_at(row, column, kind, clamp=True) for row in [-1, -2, -HUGE]],
                                     [first] * 3)
                    self.assertEqual([lines.number_at(row, column, kind, clamp=True) for row in [last + 1, 99, HUGE]],
                                     [end] * 3)
                self.assertEqual(lines.number_at(HUGE, HUGE, kind, clamp=True), counts_after(chars)[kind][-1])
                self.assertEqual(lines.number_at(-HUGE, -HUGE, kind, clamp=True), 0)

    def test_number_at_refuses_in_its_order(self):
        lines = Lines(Text(SAMPLE))
        for kind in NO_KINDS:
            self.raised(InvalidKind, {"value": kind}, lines.number_at, "x", "x", kind, clamp="x")
        for value in odd_values():
            if value is not True and value is not False:
                self.raised(InvalidFlag, {"value": value}, lines.number_at, "x", "x", "bytes", clamp=value)
        for value in no_integers():
            for clamp in [False, True]:
                self.raised(BadPlace, {"number": value}, lines.number_at, value, "x", "bytes", clamp=clamp)
                self.raised(BadPlace, {"number": value}, lines.number_at, 1, value, "bytes", clamp=clamp)
        for row in [-1, 3, HUGE, -HUGE]:
            self.raised(BadPlace, {"number": row}, lines.number_at, row, "x", "bytes", clamp=False)
        self.raised(BadPlace, {"number": HUGE}, lines.number_at, 0, HUGE, "bytes")

    def test_column_in_refuses_in_its_order(self):
        lines = Lines(Text(SAMPLE))
        for kind in NO_KINDS:
            self.raised(InvalidKind, {"value": kind}, lines.column_in, "x", "x", kind, "x")
            self.raised(InvalidKind, {"value": kind}, lines.column_in, "x", "x", "bytes", kind)
        for value in no_integers() + [-1, 3, HUGE]:
            self.raised(BadPlace, {"number": value}, lines.column_in, value, "x", "bytes", "units")
        for value in no_integers() + [-1, 8, HUGE]:
            self.raised(BadPlace, {"number": value}, lines.column_in, 1, value, "bytes", "units")


class Unifying(ErrorCase):

    def test_each_line_gets_the_end(self):
        for chars in samples():
            text = Text(chars)
            for ending in ENDINGS:
                delta = unifying(text, ending)
                self.assertIs(type(delta), Delta)
                wanted = []
                for line, end in pieces(chars):
                    wanted += line + (ending if end else [])
                self.assertEqual(delta(text).chars(), wanted)
                self.assertEqual(delta.rows(), self.rows(chars, ending))
                self.assertEqual(unifying(text, tuple(ending)), delta)
                self.assertTrue(unifying(delta(text), ending).is_plain)

    def rows(self, chars, ending):
        """The rows end by end, from a table of what each old end needs to become each new one."""
        table = {((10,), (10,)): [("keep", 1)], ((13,), (13,)): [("keep", 1)], ((13, 10), (13, 10)): [("keep", 2)],
                 ((10,), (13,)): [("put", [13]), ("drop", 1)], ((13,), (10,)): [("put", [10]), ("drop", 1)],
                 ((10,), (13, 10)): [("put", [13]), ("keep", 1)], ((13,), (13, 10)): [("keep", 1), ("put", [10])],
                 ((13, 10), (10,)): [("drop", 1), ("keep", 1)], ((13, 10), (13,)): [("keep", 1), ("drop", 1)]}
        rows = []
        for line, end in pieces(chars):
            rows.append(("keep", len(line)))
            if end:
                rows += table[(tuple(end), tuple(ending))]
        return Delta(rows).rows()

    def test_examples_by_hand(self):
        for chars, ending, wanted in [
                ([13, 13, 10], [13, 10], [("keep", 1), ("put", [10]), ("keep", 2)]),
                ([10, 13], [13], [("put", [13]), ("drop", 1), ("keep", 1)]),
                ([13, 10], [13], [("keep", 1), ("drop", 1)]),
                ([13, 13], [10], [("put", [10, 10]), ("drop", 2)]),
                ([97, 10, 98], [13, 10], [("keep", 1), ("put", [13]), ("keep", 2)]),
                ([97], [10], [("keep", 1)]), ([], [10], [])]:
            self.assertEqual(unifying(Text(chars), ending).rows(), wanted)

    def test_no_end(self):
        for value in odd_values() + [[10, 13], [10, 10], [13, 13, 10], [97], [10, None], 10, 13, "\n", [[10]],
                                     [(13, 10)], {10: 1}, Text([10]), Text([13, 10])]:
            self.raised(InvalidChars, {"value": value}, unifying, Text(SAMPLE), value)


class Widths(ErrorCase):

    def test_text_width(self):
        for chars in samples():
            lines = [line for line, _ in pieces(chars)]
            wanted = {"bytes": max([len(utf8(line)) for line in lines]),
                      "units": max([len(utf16(line)) for line in lines]), "chars": max([len(line) for line in lines])}
            found = text_width(Text(chars))
            self.assertEqual(found, wanted)
            self.assertTrue(all([is_plain_integer(value) for value in found.values()]))
        self.assertEqual(text_width(Text([97, 97, 97, 97, 10, 8364, 8364, 13, 128512, 128512, 128512])),
                         {"bytes": 12, "units": 6, "chars": 4})

    def test_a_new_dict_each_time(self):
        text = Text(SAMPLE)
        found = text_width(text)
        found["bytes"] = 99
        self.assertEqual(text_width(text)["bytes"], 7)


if __name__ == "__main__":
    unittest.main()
