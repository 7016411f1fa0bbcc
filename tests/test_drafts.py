"""Promises 81 to 83: drafts."""

import random
import unittest

from tests.helper import KINDS, NO_CHARS, NO_KINDS, ErrorCase, counts_after, no_texts, odd_values, random_chars
from tests.oracles import changed, grouped, random_rows
from threecounts.deltas import Delta
from threecounts.drafts import Draft
from threecounts.errors import (BadPlace, InvalidChar, InvalidChars, InvalidDelta, InvalidKind, InvalidText, MidChar,
                                Mismatch, NothingToUndo)
from threecounts.texts import Text
from threecounts.validation import is_chars

SAMPLE = [104, 233, 8364, 128512, 10]


def state(draft):
    """All that a draft answers."""
    return [draft.text().chars(), draft.begun().chars(), draft.in_bytes, draft.in_units, draft.in_chars, len(draft),
            list(draft), [draft[at] for at in range(len(draft))], [delta.rows() for delta in draft.changes()],
            draft.made().rows()]


def wanted_delta(size, start, end, new):
    """The rows of the delta that replaces the characters between two places."""
    steps = [("keep", None)] * start + [("put", char) for char in new] + [("drop", None)] * (end - start)
    return grouped(steps + [("keep", None)] * (size - end))


class WhatADraftTells(ErrorCase):

    def check(self, draft, chars):
        counts = counts_after(chars)
        self.assertIs(type(draft.text()), Text)
        self.assertEqual(draft.text().chars(), chars)
        self.assertEqual([draft.in_bytes, draft.in_units, draft.in_chars], [counts[kind][-1] for kind in KINDS])
        self.assertEqual(len(draft), len(chars))
        self.assertEqual([char for char in draft], chars)
        self.assertEqual([draft[at] for at in range(len(chars))], chars)

    def test_at_first(self):
        for chars in [[], SAMPLE, [128512] * 600]:
            draft = Draft(Text(chars))
            self.check(draft, chars)
            self.assertEqual(draft.begun().chars(), chars)
            self.assertEqual(draft.changes(), [])
            self.assertTrue(draft.made().is_plain)
            self.assertEqual(draft.made().length_before, len(chars))

    def test_no_text(self):
        for value in no_texts():
            self.raised(InvalidText, {"value": value}, Draft, value)

    def test_a_draft_is_no_text_and_equals_only_itself(self):
        text = Text(SAMPLE)
        draft = Draft(text=text)
        self.assertNotIsInstance(draft, Text)
        self.assertFalse(draft == Draft(text))
        self.assertFalse(draft == text)
        self.assertTrue(draft == draft)
        self.raised(InvalidText, {"value": draft}, Draft, draft)
        self.raised(InvalidChars, {"value": draft}, lambda: text + draft)
        self.assertIsInstance(repr(draft), str)
        self.assertEqual(repr(draft), repr(draft))

    def test_items_at_no_index(self):
        for chars in [[], SAMPLE]:
            draft = Draft(Text(chars))
            for index in [-1, len(chars), 10 ** 30, True, False, None, "0", [0], slice(0, 1)]:
                self.raised(BadPlace, {"number": index}, lambda: draft[index])

    def test_a_long_row_of_changes_of_all_sorts(self):
        source = random.Random(81)
        for _ in range(25):
            chars = random_chars(source, 12)
            draft = Draft(Text(chars))
            begun = list(chars)
            texts = [list(chars)]
            rows = []
            for _ in range(40):
                chars, delta_rows = self.change(source, draft, chars)
                texts.append(list(chars))
                rows.append(delta_rows)
                self.check(draft, chars)
                self.assertEqual(draft.begun().chars(), begun)
                self.assertEqual([delta.rows() for delta in draft.changes()], rows)
                self.assertEqual(draft.made()(draft.begun()), draft.text())
            whole = Delta([("keep", len(begun))])
            for delta in draft.changes():
                self.assertIs(type(delta), Delta)
                whole = whole + delta
            self.assertEqual(draft.made(), whole)
            self.take_all_back(draft, texts, rows)

    def take_all_back(self, draft, texts, rows):
        while rows:
            texts.pop()
            rows.pop()
            self.assertEqual(draft.take_back().chars(), texts[-1])
            self.check(draft, texts[-1])
            self.assertEqual([delta.rows() for delta in draft.changes()], rows)
            self.assertEqual(draft.made()(draft.begun()), draft.text())
        self.assertTrue(draft.made().is_plain)
        before = state(draft)
        self.raised(NothingToUndo, {}, draft.take_back)
        self.assertEqual(state(draft), before)

    def change(self, source, draft, chars):
        """Make a change at random; return the characters and the rows of the delta that there should be then."""
        word = source.choice(["item", "add", "insert", "drop", "replace", "apply"])
        if word == "apply":
            rows = random_rows(source, len(chars), 4)
            self.assertEqual(draft.apply(Delta(rows)), draft.text())
            return changed(rows, chars), Delta(rows).rows()
        start = source.randint(0, len(chars))
        end = source.randint(start, len(chars))
        new = random_chars(source, 3)
        kind = source.choice(KINDS)
        counts = counts_after(chars)[kind]
        if word == "item" and chars:
            start = source.randrange(len(chars))
            end, new = start + 1, [source.choice(SAMPLE)]
            draft[start] = new[0]
        elif word == "add":
            start = end = len(chars)
            held = draft
            draft += source.choice([list, tuple, Text])(new)
            self.assertIs(draft, held)
        elif word == "drop":
            new = []
            self.assertEqual(draft.drop(counts[start], counts[end], kind), draft.text())
        elif word == "insert":
            end = start
            self.assertEqual(draft.insert(counts[start], new, kind), draft.text())
        else:
            self.assertEqual(draft.replace(counts[start], counts[end], tuple(new), kind), draft.text())
        return chars[:start] + new + chars[end:], wanted_delta(len(chars), start, end, new)


class EveryPlaceInEachKind(ErrorCase):

    def test_insert_drop_and_replace(self):
        for kind in KINDS:
            counts = counts_after(SAMPLE)[kind]
            for start in range(len(SAMPLE) + 1):
                draft = Draft(Text(SAMPLE))
                found = draft.insert(counts[start], [65, 128512], kind)
                self.assertIs(type(found), Text)
                self.assertEqual(found.chars(), SAMPLE[:start] + [65, 128512] + SAMPLE[start:])
                for end in range(start, len(SAMPLE) + 1):
                    draft = Draft(Text(SAMPLE))
                    self.assertEqual(draft.drop(counts[start], counts[end], kind).chars(),
                                     SAMPLE[:start] + SAMPLE[end:])
                    draft = Draft(Text(SAMPLE))
                    self.assertEqual(draft.replace(counts[start], counts[end], [66], kind).chars(),
                                     SAMPLE[:start] + [66] + SAMPLE[end:])
                    self.assertEqual(draft.changes()[0].rows(), wanted_delta(len(SAMPLE), start, end, [66]))

    def test_items(self):
        for at in range(len(SAMPLE)):
            draft = Draft(Text(SAMPLE))
            draft[at] = 65536
            self.assertEqual(draft.text().chars(), SAMPLE[:at] + [65536] + SAMPLE[at + 1:])
            self.assertEqual(draft.changes()[0].rows(), wanted_delta(len(SAMPLE), at, at + 1, [65536]))

    def test_the_same_changes_in_each_kind(self):
        drafts = [Draft(Text(SAMPLE)) for _ in KINDS]
        for start, end, new in [(1, 3, [8364, 66]), (0, 0, [128512]), (5, 6, []), (2, 2, [233]), (0, 5, [65])]:
            counts = counts_after(drafts[0].text().chars())
            for draft, kind in zip(drafts, KINDS):
                draft.replace(counts[kind][start], counts[kind][end], new, kind)
        self.assertEqual(state(drafts[0]), state(drafts[1]))
        self.assertEqual(state(drafts[0]), state(drafts[2]))

    def test_changes_that_change_nothing_are_changes(self):
        draft = Draft(Text([97, 8364]))
        draft += []
        draft[0] = 97
        draft.insert(1, [], "bytes")
        draft.drop(1, 1, "units")
        draft.replace(0, 2, [97, 8364], "chars")
        draft.apply(Delta([("keep", 2)]))
        self.assertEqual([delta.rows() for delta in draft.changes()],
                         [[("keep", 2)], [("put", [97]), ("drop", 1), ("keep", 1)], [("keep", 2)], [("keep", 2)],
                          [("put", [97, 8364]), ("drop", 2)], [("keep", 2)]])
        self.assertEqual(draft.made().rows(), [("put", [97, 8364]), ("drop", 2)])
        self.assertEqual([draft.take_back().chars() for _ in range(6)], [[97, 8364]] * 6)
        self.raised(NothingToUndo, {}, draft.take_back)

    def test_changes_after_some_were_taken_back(self):
        draft = Draft(Text([97]))
        draft += [98]
        draft += [99]
        self.assertEqual(draft.take_back().chars(), [97, 98])
        draft[0] = 100
        self.assertEqual([delta.rows() for delta in draft.changes()],
                         [[("keep", 1), ("put", [98])], [("put", [100]), ("drop", 1), ("keep", 1)]])
        self.assertEqual(draft.made().rows(), [("put", [100, 98]), ("drop", 1)])
        self.assertEqual(draft.take_back().chars(), [97, 98])
        self.assertEqual(draft.take_back().chars(), [97])

    def test_what_is_applied_is_what_changes_tells(self):
        delta = Delta([("drop", 1), ("put", [98]), ("keep", 1)])
        draft = Draft(Text([97, 99]))
        draft.apply(delta=delta)
        self.assertEqual(draft.changes(), [delta])

    def test_to_the_bounds(self):
        draft = Draft(Text([128512] * 120))
        for at in range(199):
            draft.insert(draft.in_bytes, [65, 8364] if at < 198 else [66] * 84, "bytes")
        self.assertEqual([len(draft), draft.in_units], [600, 720])
        draft.drop(0, 480, "bytes")
        self.assertEqual([len(draft), draft.in_units, len(draft.changes())], [480, 480, 200])
        self.assertEqual(draft.made()(draft.begun()), draft.text())
        for _ in range(200):
            draft.take_back()
        self.assertEqual(draft.text(), draft.begun())


class WhatADraftRefuses(ErrorCase):

    def refused(self, kind, fields, draft, call, *args):
        before = state(draft)
        self.raised(kind, fields, call, *args)
        self.assertEqual(state(draft), before)

    def drafts(self):
        one = Draft(Text(SAMPLE))
        other = Draft(Text([97]))
        other += SAMPLE
        other.drop(0, 1, "bytes")
        return [one, other]

    def test_apply(self):
        for draft in self.drafts():
            for value in odd_values():
                if not isinstance(value, Delta):
                    self.refused(InvalidDelta, {"value": value}, draft, draft.apply, value)
            for size in [0, 4, 6]:
                before = state(draft)
                with self.assertRaises(Mismatch) as caught:
                    draft.apply(Delta([("keep", size)]))
                self.assertEqual(caught.exception.value, draft.text())
                self.assertEqual(state(draft), before)

    def test_items(self):
        def put(draft, index, char):
            draft[index] = char

        for draft in self.drafts():
            for index in [-1, 5, 10 ** 30, True, None, "0", [0]]:
                self.refused(BadPlace, {"number": index}, draft, put, draft, index, 55296)
            for char in NO_CHARS:
                self.refused(InvalidChar, {"value": char}, draft, put, draft, 4, char)
        draft = Draft(Text([]))
        self.refused(BadPlace, {"number": 0}, draft, put, draft, 0, 97)

    def test_appending(self):
        def add(draft, other):
            draft += other

        for draft in self.drafts():
            for other in odd_values() + [[97, 55296], [True], draft, {97: 98}]:
                if not is_chars(other) and not isinstance(other, Text):
                    self.refused(InvalidChars, {"value": other}, draft, add, draft, other)

    def test_kinds_come_first(self):
        for draft in self.drafts():
            for kind in NO_KINDS:
                self.refused(InvalidKind, {"value": kind}, draft, draft.insert, -1, None, kind)
                self.refused(InvalidKind, {"value": kind}, draft, draft.drop, -1, -1, kind)
                self.refused(InvalidKind, {"value": kind}, draft, draft.replace, -1, -1, None, kind)

    def test_places(self):
        for draft in self.drafts():
            for kind, counts in counts_after(SAMPLE).items():
                for number in [-1, counts[-1] + 1, 10 ** 30, True, False, None, "1", [1]]:
                    fields = {"number": number}
                    self.refused(BadPlace, fields, draft, draft.insert, number, None, kind)
                    self.refused(BadPlace, fields, draft, draft.drop, number, -2, kind)
                    self.refused(BadPlace, fields, draft, draft.drop, 0, number, kind)
                    self.refused(BadPlace, fields, draft, draft.replace, number, -2, None, kind)
                    self.refused(BadPlace, fields, draft, draft.replace, 1, number, None, kind)
                for number in range(counts[-1]):
                    if number not in counts:
                        start = max([count for count in counts if count < number])
                        end = min([count for count in counts if count > number])
                        fields = {"number": number, "start": start, "end": end}
                        self.refused(MidChar, fields, draft, draft.insert, number, None, kind)
                        self.refused(MidChar, fields, draft, draft.drop, number, -2, kind)
                        # Also if the end is less than the start.
                        self.refused(MidChar, fields, draft, draft.drop, counts[-1], number, kind)
                        self.refused(MidChar, fields, draft, draft.replace, 0, number, None, kind)
                for start in range(len(counts)):
                    for end in counts[:start]:
                        fields = {"number": end}
                        self.refused(BadPlace, fields, draft, draft.drop, counts[start], end, kind)
                        self.refused(BadPlace, fields, draft, draft.replace, counts[start], end, None, kind)

    def test_characters_come_last(self):
        for draft in self.drafts():
            for value in odd_values():
                if not isinstance(value, (list, tuple)):
                    self.refused(InvalidChars, {"value": value}, draft, draft.insert, 1, value, "bytes")
                    self.refused(InvalidChars, {"value": value}, draft, draft.replace, 1, 3, value, "bytes")
            for char in NO_CHARS:
                self.refused(InvalidChar, {"value": char}, draft, draft.insert, 1, [97, char, None], "bytes")
                self.refused(InvalidChar, {"value": char}, draft, draft.replace, 1, 3, (97, char, None), "bytes")


class WhatIsPassedAndReturned(unittest.TestCase):

    def test_lists_may_be_changed(self):
        draft = Draft(Text([97]))
        added, put, new = [98], [99], [100]
        draft += added
        draft.insert(0, put, "bytes")
        draft.replace(1, 2, new, "bytes")
        for chars in [added, put, new]:
            chars.append(120)
        self.assertEqual(draft.text().chars(), [99, 100, 98])
        wanted = state(draft)
        draft.changes().append(1)
        draft.changes()[0].rows()[1][1].append(5)
        draft.text().chars().append(1)
        self.assertEqual(state(draft), wanted)
        self.assertIsNot(draft.changes(), draft.changes())

    def test_arguments_by_name(self):
        draft = Draft(text=Text(SAMPLE))
        draft.insert(kind="bytes", chars=[65], number=0)
        draft.drop(kind="units", end=2, start=1)
        draft.replace(kind="chars", chars=[66], end=2, start=1)
        self.assertEqual(draft.text().chars(), [65, 66, 8364, 128512, 10])


if __name__ == "__main__":
    unittest.main()
