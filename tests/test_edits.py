"""Promises 71 to 73: deltas and edits counted in each kind."""

import random
import unittest

from tests.helper import (KINDS, NO_CHARS, NO_KINDS, ErrorCase, counts_after, is_plain_integer, no_texts, odd_values)
from tests.oracles import distinct_chars, random_rows, rows_to
from threecounts.deltas import Delta
from threecounts.edits import counted, delta_from, edits_of, in_turn, recounted, recounted_in_turn, together
from threecounts.errors import (BadPlace, BadRow, InvalidDelta, InvalidEdit, InvalidEdits, InvalidKind, InvalidRow,
                                InvalidRows, InvalidText, MidChar, Mismatch, Overlap)
from threecounts.texts import Text

SAMPLE = [104, 128512, 33]
HUGE = 10 ** 30
TAKERS = [together, in_turn]
RECOUNTERS = [recounted, recounted_in_turn]


def no_deltas():
    return [value for value in odd_values() if not isinstance(value, Delta)]


def counted_rows(rows, chars, kind):
    """Rows counted in a kind, by Python's own encodings."""
    found = []
    at = 0
    counts = counts_after(chars)[kind]
    for word, what in rows:
        if word == "put":
            found.append((word, what))
        else:
            found.append((word, counts[at + what] - counts[at]))
            at += what
    return found


def random_edits(source, chars, many):
    """Edits, told in characters, that may stand beside one another, in any order."""
    edits = []
    for _ in range(many):
        start = source.randint(0, len(chars))
        end = source.choice([start, source.randint(start, len(chars))])
        edit = (start, end, [source.randrange(65, 91) for _ in range(source.choice([0, 1, 2]))])
        if all([may_stand(edit, other) for other in edits]):
            edits.append(edit)
    return edits


def may_stand(one, other):
    if set(range(one[0], one[1])) & set(range(other[0], other[1])):
        return False
    return not any([left[2] and right[0] < left[0] < right[1] for left, right in [(one, other), (other, one)]])


def after_together(edits, chars):
    """The characters after edits, told in characters, gap by gap."""
    found = []
    for gap in range(len(chars) + 1):
        for start, _, put in edits:
            found += put if start == gap else []
        if gap < len(chars) and not any([start <= gap < end for start, end, _ in edits]):
            found.append(chars[gap])
    return found


def in_kind(edits, chars, kind):
    counts = counts_after(chars)[kind]
    return [(counts[start], counts[end], put) for start, end, put in edits]


class CountedRows(ErrorCase):

    def test_there_and_back(self):
        source = random.Random(71)
        for _ in range(300):
            chars = distinct_chars(source, 10)
            text = Text(chars)
            rows = random_rows(source, len(chars), 4)
            delta = Delta(rows)
            for kind in KINDS:
                found = counted(delta, text, kind)
                self.assertEqual(found, counted_rows(delta.rows(), chars, kind))
                self.assertEqual(delta_from(found, text, kind), delta)
                # Also rows that are not in normal form.
                self.assertEqual(delta_from(counted_rows(rows, chars, kind), text, kind), delta)
                self.assertIs(type(delta_from(tuple(found), text, kind)), Delta)

    def test_what_is_behind_the_last_row_is_kept(self):
        text = Text(SAMPLE)
        for kind in KINDS:
            self.assertEqual(delta_from([], text, kind).rows(), [("keep", 3)])
            self.assertEqual(delta_from([("drop", 1)], text, kind).rows(), [("drop", 1), ("keep", 2)])
            self.assertEqual(delta_from([("put", (65, 66))], text, kind).rows(), [("put", [65, 66]), ("keep", 3)])
        self.assertEqual(delta_from([("keep", 1), ("drop", 2)], text, "units").rows(),
                         [("keep", 1), ("drop", 1), ("keep", 1)])

    def test_new_lists_and_copies(self):
        text = Text(SAMPLE)
        put = [65]
        rows = [("put", put)]
        delta = delta_from(rows, text, "bytes")
        put.append(66)
        rows.append(("drop", 1))
        self.assertEqual(delta.rows(), [("put", [65]), ("keep", 3)])
        found = counted(delta, text, "bytes")
        found[0][1].append(67)
        found.append(1)
        self.assertEqual(counted(delta, text, "bytes"), [("put", [65]), ("keep", 6)])

    def test_a_row_that_ends_within_a_character(self):
        text = Text([104, 8364, 128512])
        for rows, kind, index, number, start, end in [
                ([("keep", 2)], "bytes", 0, 2, 1, 4), ([("keep", 1), ("drop", 2)], "bytes", 1, 3, 1, 4),
                ([("keep", 4), ("put", [65]), ("drop", 0), ("drop", 3)], "bytes", 3, 7, 4, 8),
                ([("keep", 3)], "units", 0, 3, 2, 4), ([("drop", 1), ("keep", 1), ("drop", 1)], "units", 2, 3, 2, 4),
                ([("put", []), ("keep", 5), ("keep", 99)], "bytes", 1, 5, 4, 8)]:
            error = self.raised(BadRow, {"index": index}, delta_from, rows, text, kind)
            self.assertIs(type(error.__cause__), MidChar)
            self.assertEqual(vars(error.__cause__), {"number": number, "start": start, "end": end})

    def test_a_row_that_ends_behind_the_text(self):
        text = Text([104, 8364, 128512])
        for rows, kind, index, number in [
                ([("keep", 9)], "bytes", 0, 9), ([("keep", 8), ("put", [65]), ("drop", 1)], "bytes", 2, 9),
                ([("drop", 5)], "units", 0, 5), ([("keep", 3), ("keep", 0), ("drop", 1), ("keep", 1)], "chars", 2, 4),
                ([("keep", 2400)], "chars", 0, 2400), ([("keep", 4), ("keep", 2400)], "bytes", 1, 2404)]:
            error = self.raised(BadRow, {"index": index}, delta_from, rows, text, kind)
            self.assertIs(type(error.__cause__), BadPlace)
            self.assertEqual(vars(error.__cause__), {"number": number})

    def test_great_rows(self):
        text = Text([128512] * 600)
        self.assertEqual(delta_from([("drop", 2400)], text, "bytes").rows(), [("drop", 600)])
        self.assertEqual(counted(Delta([("keep", 600)]), text, "bytes"), [("keep", 2400)])
        text = Text([65] * 700)
        self.assertEqual(delta_from([("keep", 700)], text, "chars").rows(), [("keep", 700)])
        self.assertEqual(counted(delta_from([], text, "chars"), text, "units"), [("keep", 700)])

    def test_counted_refuses_in_its_order(self):
        delta, text = Delta([("keep", 2), ("drop", 1)]), Text(SAMPLE)
        for call in [counted, edits_of]:
            for value in no_deltas():
                self.raised(InvalidDelta, {"value": value}, call, value, None, "x")
            for value in no_texts():
                self.raised(InvalidText, {"value": value}, call, delta, value, "x")
            for other in [Text([]), Text([1, 2]), Text([1, 2, 3, 4])]:
                self.raised(Mismatch, {"value": other}, call, delta, other, "x")
            for kind in NO_KINDS:
                self.raised(InvalidKind, {"value": kind}, call, delta, text, kind)

    def test_delta_from_refuses_in_its_order(self):
        text = Text(SAMPLE)
        for value in odd_values() + [[("keep", 0)] * 1301]:
            if not isinstance(value, (list, tuple)) or len(value) > 1300:
                self.raised(InvalidRows, {"value": value}, delta_from, value, None, "x")
        wrong = [("keep", 2401), ("drop", 2401), ("keep", -1), ("keep", True), ("drop", None), ("put", [65] * 601),
                 ("put", 1), ["keep", 1], ("keep",), (), ("keep", 1, 1), ("hold", 1)] + odd_values()
        wrong += [("put", [char]) for char in NO_CHARS]
        for item in wrong:
            self.raised(InvalidRow, {"value": item}, delta_from, [("keep", 2400), item, None], None, "x")
        for value in no_texts():
            self.raised(InvalidText, {"value": value}, delta_from, [("keep", 99)], value, "x")
        for kind in NO_KINDS:
            for rows in [[], [("put", [65])], [("keep", 99)]]:
                self.raised(InvalidKind, {"value": kind}, delta_from, rows, text, kind)

    def test_as_many_rows_as_may_be(self):
        self.assertEqual(delta_from([("keep", 0)] * 1300, Text(SAMPLE), "bytes").rows(), [("keep", 3)])

    def test_arguments_by_name(self):
        text = Text(SAMPLE)
        self.assertEqual(counted(kind="bytes", text=text, delta=Delta([("drop", 3)])), [("drop", 6)])
        self.assertEqual(delta_from(kind="bytes", text=text, rows=[("drop", 6)]).rows(), [("drop", 3)])


class Together(ErrorCase):

    def test_random_edits(self):
        source = random.Random(72)
        for _ in range(400):
            chars = distinct_chars(source, 9)
            edits = random_edits(source, chars, source.randint(0, 6))
            wanted = rows_to(chars, after_together(edits, chars))
            for kind in KINDS:
                given = in_kind(edits, chars, kind)
                delta = together(given, Text(chars), kind)
                self.assertIs(type(delta), Delta)
                self.assertEqual(delta.rows(), wanted)
                self.assertEqual(together(tuple(given), Text(chars), kind), delta)

    def test_touching_and_at_the_same_place(self):
        text = Text([97, 98, 99, 100])
        for edits, wanted in [
                ([(1, 2, []), (2, 3, [])], [("keep", 1), ("drop", 2), ("keep", 1)]),
                ([(2, 3, [66]), (1, 2, [65])], [("keep", 1), ("put", [65, 66]), ("drop", 2), ("keep", 1)]),
                ([(2, 2, [65]), (2, 2, [66])], [("keep", 2), ("put", [65, 66]), ("keep", 2)]),
                ([(2, 2, [66]), (2, 2, [65]), (2, 2, [67])], [("keep", 2), ("put", [66, 65, 67]), ("keep", 2)]),
                ([(1, 3, [65]), (1, 1, [66])], [("keep", 1), ("put", [65, 66]), ("drop", 2), ("keep", 1)]),
                ([(1, 1, [66]), (1, 3, [65])], [("keep", 1), ("put", [66, 65]), ("drop", 2), ("keep", 1)]),
                ([(3, 3, [66]), (1, 3, [65])], [("keep", 1), ("put", [65, 66]), ("drop", 2), ("keep", 1)]),
                ([(1, 3, []), (2, 2, [])], [("keep", 1), ("drop", 2), ("keep", 1)]),
                ([(4, 4, [65]), (0, 0, (66,))], [("put", [66]), ("keep", 4), ("put", [65])]),
                ([(2, 2, []), (0, 0, [])], [("keep", 4)]), ([], [("keep", 4)])]:
            self.assertEqual(together(edits, text, "chars").rows(), wanted)

    def test_overlapping(self):
        text = Text([97, 98, 99, 100, 8364])
        for edits, index in [
                ([(1, 3, []), (2, 4, [])], 1), ([(2, 4, []), (1, 3, [])], 1), ([(1, 3, []), (1, 3, [])], 1),
                ([(1, 2, []), (0, 3, [])], 1), ([(0, 3, []), (1, 2, [])], 1), ([(0, 4, []), (2, 2, [65])], 1),
                ([(2, 2, [65]), (0, 4, [])], 1), ([(2, 2, []), (0, 4, []), (1, 1, [65])], 2),
                ([(0, 1, []), (1, 2, []), (2, 3, []), (1, 2, [65]), (9, 9, [])], 3),
                ([(3, 3, [65]), (0, 0, [66]), (2, 4, []), None], 2)]:
            self.raised(Overlap, {"index": index}, together, edits, text, "chars")

    def test_every_pair_of_edits(self):
        chars = [97, 8364, 128512]
        spans = [(start, end) for start in range(4) for end in range(start, 4)]
        pairs = [((*one, put), (*other, new)) for one in spans for other in spans
                 for put in [[], [65]] for new in [[], [66]]]
        for one, other in pairs:
            for kind in KINDS:
                edits = in_kind([one, other], chars, kind)
                if may_stand(one, other):
                    wanted = rows_to(chars, after_together([one, other], chars))
                    self.assertEqual(together(edits, Text(chars), kind).rows(), wanted)
                else:
                    self.raised(Overlap, {"index": 1}, together, edits, Text(chars), kind)


class InTurn(ErrorCase):

    def test_random_edits(self):
        source = random.Random(73)
        for _ in range(300):
            chars = distinct_chars(source, 8)
            kinds = {kind: [] for kind in KINDS}
            now = list(chars)
            put = 1000
            for _ in range(source.randint(0, 6)):
                start = source.randint(0, len(now))
                end = source.randint(start, len(now))
                new = [source.choice([0, 30000, 70000]) + put + at for at in range(source.randint(0, 2))]
                put += len(new)
                for kind in KINDS:
                    kinds[kind].append((counts_after(now)[kind][start], counts_after(now)[kind][end], new))
                now = now[:start] + new + now[end:]
            for kind in KINDS:
                delta = in_turn(kinds[kind], Text(chars), kind)
                self.assertIs(type(delta), Delta)
                self.assertEqual(delta.rows(), rows_to(chars, now))
                self.assertEqual(delta(Text(chars)).chars(), now)
                for other in KINDS:
                    self.assertEqual(recounted_in_turn(kinds[kind], Text(chars), kind, other), kinds[other])

    def test_examples_by_hand(self):
        text = Text([97, 128512])
        self.assertEqual(in_turn([], text, "bytes").rows(), [("keep", 2)])
        self.assertEqual(in_turn([(0, 1, [8364]), (3, 7, [])], text, "bytes").rows(), [("put", [8364]), ("drop", 2)])
        self.assertEqual(in_turn([(0, 1, []), (0, 0, [97])], text, "units").rows(),
                         [("put", [97]), ("drop", 1), ("keep", 1)])
        self.assertEqual(in_turn([(1, 1, [65, 66]), (1, 3, [])], text, "units").rows(), [("keep", 2)])
        # What overlaps for edits that are made together does not for edits in turn.
        self.assertEqual(in_turn(((0, 1, ()), (0, 2, ())), text, "units").rows(), [("drop", 2)])

    def test_counted_against_what_those_before_leave(self):
        text = Text([97])
        self.raised(BadPlace, {"number": 1}, in_turn, [(0, 1, []), (0, 1, [])], text, "bytes")
        for kind, last, end in [("bytes", 3, 5), ("units", 3, 3)]:
            edits = [(1, 1, [128512]), (2, last, [])]
            self.raised(MidChar, {"number": 2, "start": 1, "end": end}, in_turn, edits, text, kind)
        self.assertEqual(in_turn([(1, 1, [65]), (2, 2, [66])], text, "bytes").rows(), [("keep", 1), ("put", [65, 66])])


class WrongEdits(ErrorCase):

    def calls(self):
        """Each function with what stands behind its first three arguments."""
        return [(call, []) for call in TAKERS] + [(call, ["x"]) for call in RECOUNTERS]

    def test_no_edits_text_and_kind_in_this_order(self):
        for call, more in self.calls():
            for value in odd_values() + [[(0, 0, [])] * 61, (None,) * 61]:
                if not isinstance(value, (list, tuple)) or len(value) > 60:
                    self.raised(InvalidEdits, {"value": value}, call, value, None, "x", *more)
            for value in no_texts():
                self.raised(InvalidText, {"value": value}, call, [None], value, "x", *more)
            for kind in NO_KINDS:
                self.raised(InvalidKind, {"value": kind}, call, [None], Text(SAMPLE), kind, *more)

    def test_no_edit(self):
        wrong = [(-1, 1, []), (0, -1, []), (1, 0, []), (2, 1, []), (HUGE + 1, HUGE, []), (True, 1, []), (0, True, []),
                 (False, 0, []), (None, 1, []), (0, None, []), ("0", 1, []), (0, 1, None), (0, 1, 65), (0, 1, "a"),
                 (0, 1, {}), (0, 1, Text([65])), (0, 1, [65] * 601), (0, 1), (0, 1, [], []), (), [0, 1, []], "abc",
                 (9, 8, []), (-HUGE, 0, []), ([], 1, []), (0, (), [])]
        wrong += [(0, 1, [65, char]) for char in NO_CHARS] + odd_values()
        for call, more in self.calls():
            for item in wrong:
                for edits in [[item], [(0, 0, []), item, None], ((1, 1, [65]), item, (9, 9, []))]:
                    self.raised(InvalidEdit, {"value": item}, call, edits, Text(SAMPLE), "bytes", *more)

    def test_no_place(self):
        text = Text([104, 8364, 128512])
        for call, more in self.calls():
            for item, kind, number in [
                    ((9, 9, []), "bytes", 9), ((0, 9, []), "bytes", 9), ((0, 5, [65]), "units", 5),
                    ((4, 4, []), "chars", 4), ((HUGE, HUGE, []), "chars", HUGE), ((0, HUGE, []), "bytes", HUGE),
                    ((9, 10, []), "bytes", 9)]:
                for edits in [[item], [(0, 0, []), item, None]]:
                    self.raised(BadPlace, {"number": number}, call, edits, text, kind, *more)
            for item, kind, fields in [
                    ((2, 2, []), "bytes", (2, 1, 4)), ((0, 7, []), "bytes", (7, 4, 8)),
                    ((3, 99, []), "bytes", (3, 1, 4)), ((0, 3, []), "units", (3, 2, 4)),
                    ((3, 3, [65]), "units", (3, 2, 4)), ((5, 6, []), "bytes", (5, 4, 8))]:
                for edits in [[item], [(0, 0, []), item, None]]:
                    wanted = dict(zip(["number", "start", "end"], fields))
                    self.raised(MidChar, wanted, call, edits, text, kind, *more)

    def test_edit_by_edit(self):
        text = Text([104, 8364, 128512])
        for call, more in [(together, []), (recounted, ["x"])]:
            self.raised(Overlap, {"index": 1}, call, [(0, 4, []), (1, 4, []), (9, 9, [])], text, "bytes", *more)
            self.raised(BadPlace, {"number": 9}, call, [(0, 4, []), (1, 9, []), None], text, "bytes", *more)
            self.raised(MidChar, {"number": 2, "start": 1, "end": 4}, call, [(0, 4, []), (2, 9, [])], text, "bytes",
                        *more)

    def test_as_many_edits_as_may_be(self):
        text = Text([])
        edits = [(0, 0, [65])] * 60
        for call in TAKERS:
            self.assertEqual(call(edits, text, "bytes").rows(), [("put", [65] * 60)])
            self.assertEqual(call([(0, 0, [65] * 600)], text, "bytes").rows(), [("put", [65] * 600)])

    def test_the_other_kind_comes_last(self):
        text = Text(SAMPLE)
        for kind in NO_KINDS:
            for call in RECOUNTERS:
                self.raised(InvalidKind, {"value": kind}, call, [(0, 1, [])], text, "bytes", kind)
                self.raised(InvalidKind, {"value": kind}, call, [], text, "bytes", kind)

    def test_arguments_by_name(self):
        text = Text(SAMPLE)
        for call in TAKERS:
            self.assertEqual(call(kind="units", text=text, edits=[(1, 3, [])]).rows(),
                             [("keep", 1), ("drop", 1), ("keep", 1)])
        for call in RECOUNTERS:
            self.assertEqual(call(other="bytes", kind="units", text=text, edits=[(1, 3, [])]), [(1, 5, [])])
        self.assertEqual(edits_of(kind="bytes", text=text, delta=Delta([("keep", 1), ("drop", 2)])), [(1, 6, [])])


class EditsOfDeltas(ErrorCase):

    def test_as_few_as_possible(self):
        source = random.Random(74)
        for _ in range(300):
            chars = distinct_chars(source, 10)
            text = Text(chars)
            delta = Delta(random_rows(source, len(chars), 3))
            for kind in KINDS:
                edits = edits_of(delta, text, kind)
                self.assertEqual(together(edits, text, kind), delta)
                self.assertEqual(edits, in_kind(self.by_hand(delta), chars, kind))
                self.assertEqual([edit[:2] for edit in edits], sorted([edit[:2] for edit in edits]))
                for first, last, put in edits:
                    self.assertTrue(is_plain_integer(first) and is_plain_integer(last))
                    self.assertIs(type(put), list)

    def by_hand(self, delta):
        """An edit for each run of rows that do not keep."""
        edits = []
        at = 0
        for word, what in [("keep", 0)] + delta.rows():
            if word == "keep":
                at += what
                fresh = True
                continue
            if fresh:
                edits.append((at, at, []))
                fresh = False
            if word == "put":
                edits[-1] = (at, at, what)
            else:
                edits[-1] = (edits[-1][0], at + what, edits[-1][2])
                at += what
        return edits

    def test_examples_by_hand(self):
        text = Text(SAMPLE)
        self.assertEqual(edits_of(Delta([("keep", 3)]), text, "bytes"), [])
        self.assertEqual(edits_of(Delta([]), Text([]), "bytes"), [])
        self.assertEqual(edits_of(Delta([("drop", 1), ("keep", 1), ("put", [65]), ("drop", 1)]), text, "bytes"),
                         [(0, 1, []), (5, 6, [65])])
        self.assertEqual(edits_of(Delta([("keep", 3), ("put", [65])]), text, "units"), [(4, 4, [65])])

    def test_recounted(self):
        source = random.Random(75)
        for _ in range(200):
            chars = distinct_chars(source, 9)
            text = Text(chars)
            edits = random_edits(source, chars, source.randint(0, 6))
            for kind in KINDS:
                given = in_kind(edits, chars, kind)
                delta = together(given, text, kind)
                for other in KINDS:
                    found = recounted(given, text, kind, other)
                    self.assertEqual(found, edits_of(delta, text, other))
                    self.assertEqual(together(found, text, other), delta)

    def test_recounted_examples_by_hand(self):
        text = Text(SAMPLE)
        self.assertEqual(recounted([(3, 4, []), (1, 3, [65]), (0, 0, [66])], text, "units", "bytes"),
                         [(0, 0, [66]), (1, 6, [65])])
        # One for one, also edits that change nothing.
        self.assertEqual(recounted_in_turn([(3, 3, []), (1, 3, (65,)), (2, 3, [])], text, "units", "bytes"),
                         [(5, 5, []), (1, 5, [65]), (2, 3, [])])
        for call in RECOUNTERS:
            self.assertEqual(call([], text, "units", "bytes"), [])

    def test_new_lists_and_copies(self):
        text = Text(SAMPLE)
        put = [65]
        edits = [(0, 0, put)]
        deltas = [call(edits, text, "bytes") for call in TAKERS]
        found = [call(edits, text, "bytes", "units") for call in RECOUNTERS] + [edits_of(deltas[0], text, "bytes")]
        for each in found:
            self.assertIs(type(each), list)
            self.assertIs(type(each[0]), tuple)
            self.assertEqual(each, [(0, 0, [65])])
            each[0][2].append(66)
            each.append(1)
        self.assertEqual([edits, put], [[(0, 0, [65])], [65]])
        put.append(67)
        edits.append(2)
        for delta in deltas:
            self.assertEqual(delta.rows(), [("put", [65]), ("keep", 3)])
        self.assertEqual(edits_of(deltas[0], text, "bytes"), [(0, 0, [65])])

    def test_texts_that_grow_beyond_the_bounds(self):
        text = Text([65] * 600)
        delta = in_turn([(0, 0, [66] * 600), (0, 0, [67] * 600)], text, "chars")
        self.assertEqual(delta.rows(), [("put", [67] * 600 + [66] * 600), ("keep", 600)])


if __name__ == "__main__":
    unittest.main()
