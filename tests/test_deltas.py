"""Promises 61 to 65: deltas."""

import random
import unittest

from tests.helper import ErrorCase, NO_CHARS, no_texts, odd_values, random_chars
from tests.oracles import changed, normal_rows, random_rows, rows_to
from threecounts.deltas import Delta, between, merged
from threecounts.errors import (InvalidChars, InvalidDelta, InvalidFlag, InvalidRow, InvalidRows, InvalidText, Mismatch,
                                NoDelta)
from threecounts.places import Place
from threecounts.texts import Text

HUGE = 10 ** 30


def no_deltas():
    return [value for value in odd_values() if not isinstance(value, Delta)]


class RowsOfDeltas(ErrorCase):

    def test_normal_form(self):
        for rows, wanted in [
                ([], []), ([("keep", 0), ("drop", 0), ("put", [])], []),
                ([("keep", 2), ("keep", 3)], [("keep", 5)]),
                ([("drop", 2), ("keep", 0), ("drop", 3)], [("drop", 5)]),
                ([("put", [1]), ("drop", 0), ("put", (2,))], [("put", [1, 2])]),
                ([("drop", 1), ("put", [7])], [("put", [7]), ("drop", 1)]),
                ([("put", [1]), ("drop", 1), ("put", [2]), ("drop", 1), ("put", [3])],
                 [("put", [1, 2, 3]), ("drop", 2)]),
                ([("drop", 1), ("keep", 1), ("put", [2]), ("drop", 1)],
                 [("drop", 1), ("keep", 1), ("put", [2]), ("drop", 1)]),
                ([("drop", 1), ("put", []), ("keep", 0), ("put", [5]), ("keep", 1), ("put", [6])],
                 [("put", [5]), ("drop", 1), ("keep", 1), ("put", [6])])]:
            for given in [rows, tuple(rows)]:
                self.assertEqual(Delta(given).rows(), wanted)

    def test_normal_form_of_random_rows(self):
        source = random.Random(61)
        for _ in range(400):
            size = source.randint(0, 12)
            rows = random_rows(source, size)
            chars = random_chars(source, size)
            chars += [8364] * (size - len(chars))
            delta = Delta(rows)
            self.assertEqual(delta.rows(), normal_rows(rows))
            self.assertEqual([delta.length_before, delta.length_after], [size, len(changed(rows, chars))])
            self.assertEqual(delta(Text(chars)).chars(), changed(rows, chars))
            self.assertIs(delta.is_plain, all([word == "keep" for word, _ in normal_rows(rows)]))
            again = Delta(delta.rows())
            self.assertTrue(again == delta)
            self.assertEqual(again.rows(), delta.rows())

    def test_kinds_of_the_rows(self):
        rows = Delta([["keep", 1]][:0] + [("keep", 1), ("put", (5, 6)), ("drop", 2)]).rows()
        self.assertIs(type(rows), list)
        self.assertEqual([type(row) for row in rows], [tuple, tuple, tuple])
        self.assertIs(type(rows[1][1]), list)

    def test_bounds_of_the_rows(self):
        self.assertEqual(Delta([("keep", 600), ("drop", 600), ("put", [65] * 600)]).rows(),
                         [("keep", 600), ("put", [65] * 600), ("drop", 600)])
        self.assertEqual(Delta([("keep", 0)] * 1300).rows(), [])
        self.assertEqual(Delta([("keep", 1), ("put", [65])] * 600).length_after, 1200)
        rows = [("keep", 0)] * 1301
        self.raised(InvalidRows, {"value": rows}, Delta, rows)
        rows = (None,) * 1301
        self.raised(InvalidRows, {"value": rows}, Delta, rows)

    def test_no_rows(self):
        for value in odd_values() + ["keep", {"keep": 1}, {}]:
            if not isinstance(value, (list, tuple)):
                self.raised(InvalidRows, {"value": value}, Delta, value)

    def test_no_row(self):
        wrong = [("keep", 601), ("drop", 601), ("keep", -1), ("drop", -1), ("keep", HUGE), ("keep", True),
                 ("drop", False), ("keep", None), ("keep", "1"), ("keep", [1]), ("put", 1), ("put", None), ("put", "a"),
                 ("put", Text([1])), ("put", [65] * 601), ("put", {}), ["keep", 1], ["put", [1]], ("keep",),
                 ("keep", 1, 1), (), ("Keep", 1), ("", 1), ("retain", 1), (None, 1), (1, "keep"), (["keep"], 1), (Text([]), 1), (Delta([]), [1]), "ke"]
        wrong += [("put", [65, char]) for char in NO_CHARS]
        wrong += [value for value in odd_values()]
        for item in wrong:
            for rows in [[item], (item,), [("keep", 1), item, None], [("put", []), ("drop", 600), item, ("keep", 601)]]:
                self.raised(InvalidRow, {"value": item}, Delta, rows)

    def test_what_was_passed_and_returned_may_be_changed(self):
        put = [120]
        rows = [("keep", 1), ("put", put), ("drop", 1)]
        delta = Delta(rows)
        put.append(121)
        rows.append(("keep", 5))
        wanted = [("keep", 1), ("put", [120]), ("drop", 1)]
        self.assertEqual(delta.rows(), wanted)
        found = delta.rows()
        found[1][1].append(1)
        found.append(2)
        self.assertEqual(delta.rows(), wanted)
        self.assertEqual(delta.length_after, 2)
        self.assertIsNot(delta.rows()[1][1], delta.rows()[1][1])

    def test_the_text_after_the_change(self):
        delta = Delta(rows=[("keep", 1), ("put", [120])])
        self.assertIs(type(delta(Text([97]))), Text)
        self.assertEqual(delta(text=Text([97])).chars(), [97, 120])
        for value in no_texts():
            self.raised(InvalidText, {"value": value}, delta, value)
            self.raised(InvalidText, {"value": value}, delta.inverted, value)
        for chars in [[], [97, 98], [97] * 600]:
            text = Text(chars)
            self.raised(Mismatch, {"value": text}, delta, text)
            self.raised(Mismatch, {"value": text}, delta.inverted, text)

    def test_equality(self):
        one = Delta([("drop", 1), ("put", [5])])
        self.assertTrue(one == Delta([("put", (5,)), ("keep", 0), ("drop", 1)]))
        self.assertFalse(one != Delta([("put", (5,)), ("drop", 1)]))
        for rows in [[], [("drop", 1)], [("put", [5])], [("put", [5]), ("keep", 1)], [("put", [6]), ("drop", 1)],
                     [("put", [5]), ("drop", 2)], [("put", [5]), ("drop", 1), ("keep", 1)]]:
            self.assertFalse(one == Delta(rows))
        for value in no_deltas() + [one.rows(), tuple(one.rows())]:
            self.assertIs(one == value, False)
            self.assertIs(value == one, False)

    def test_repr_stays_the_same(self):
        delta = Delta([("drop", 1), ("put", [5])])
        self.assertIsInstance(repr(delta), str)
        self.assertEqual(repr(delta), repr(delta))


class ComposingAndInverting(ErrorCase):

    def test_composed(self):
        source = random.Random(63)
        for _ in range(400):
            size = source.randint(0, 10)
            # Distinct items: those of the text, those that the first puts, and those that the second puts.
            chars = list(range(10000, 10000 + size))
            one = Delta(random_rows(source, size, 4, 100))
            middle = one(Text(chars)).chars()
            other = Delta(random_rows(source, len(middle), 4, 200))
            whole = one + other
            self.assertIs(type(whole), Delta)
            after = other(Text(middle)).chars()
            self.assertEqual(whole(Text(chars)).chars(), after)
            self.assertEqual([whole.length_before, whole.length_after], [size, len(after)])
            self.assertEqual(whole.rows(), rows_to(chars, after))
            self.assertEqual(whole, Delta(whole.rows()))

    def test_the_character_0_is_one_like_all_others(self):
        one, other = Delta([("keep", 1), ("put", [0])]), Delta([("put", [0]), ("drop", 1), ("keep", 1)])
        self.assertEqual((one + other).rows(), [("put", [0, 0]), ("drop", 1)])
        self.assertEqual((one + other)(Text([0])).chars(), [0, 0])

    def test_composed_from_the_left_and_from_the_right(self):
        source = random.Random(64)
        for _ in range(200):
            size = source.randint(0, 10)
            one = Delta(random_rows(source, size))
            two = Delta(random_rows(source, one.length_after))
            three = Delta(random_rows(source, two.length_after))
            self.assertEqual((one + two) + three, one + (two + three))

    def test_a_character_dropped_and_put_again_is_not_kept(self):
        whole = Delta([("drop", 1)]) + Delta([("put", [97])])
        self.assertEqual(whole.rows(), [("put", [97]), ("drop", 1)])
        self.assertFalse(whole.is_plain)
        whole = Delta([("put", [97])]) + Delta([("drop", 1)])
        self.assertEqual(whole.rows(), [])
        self.assertTrue(whole.is_plain)

    def test_composed_of_other_things(self):
        one = Delta([("keep", 1), ("put", [120])])
        for value in no_deltas():
            self.raised(InvalidDelta, {"value": value}, lambda: one + value)
        for rows in [[], [("keep", 1)], [("keep", 3)], [("drop", 600)]]:
            other = Delta(rows)
            self.raised(Mismatch, {"value": other}, lambda: one + other)

    def test_with_texts_and_places(self):
        delta, text = Delta([("keep", 1)]), Text([97])
        place = Place(text, 0)
        self.raised(InvalidDelta, {"value": text}, lambda: delta + text)
        self.raised(InvalidChars, {"value": delta}, lambda: text + delta)
        self.raised(InvalidDelta, {"value": place}, lambda: delta + place)

    def test_inverted(self):
        source = random.Random(65)
        for _ in range(300):
            size = source.randint(0, 10)
            chars = list(range(10000, 10000 + size))
            delta = Delta(random_rows(source, size))
            after = delta(Text(chars))
            back = delta.inverted(Text(chars))
            self.assertIs(type(back), Delta)
            self.assertEqual(back(after).chars(), chars)
            wanted = []
            at = 0
            for word, what in delta.rows():
                many = len(what) if word == "put" else what
                if word == "keep":
                    wanted.append((word, what))
                else:
                    wanted.append(("drop", many) if word == "put" else ("put", chars[at:at + what]))
                at += 0 if word == "put" else what
            self.assertEqual(back.rows(), normal_rows(wanted))
            self.assertEqual(back.inverted(after), delta)
            self.assertEqual(back.is_plain, delta.is_plain)
        self.assertEqual(Delta([("drop", 1)]).inverted(text=Text([5])).rows(), [("put", [5])])

    def test_is_plain(self):
        for rows, wanted in [([], True), ([("keep", 3)], True), ([("put", []), ("drop", 0)], True),
                             ([("put", [1])], False), ([("drop", 1)], False), ([("keep", 3), ("drop", 1)], False),
                             ([("keep", 1), ("put", [1]), ("keep", 1)], False)]:
            self.assertIs(Delta(rows).is_plain, wanted)

    def test_more_than_rows_may_tell(self):
        # Two deltas within the bounds make one beyond them: this is no error.
        one = Delta([("put", [65] * 600), ("keep", 600)])
        whole = one + Delta([("put", [66] * 600), ("keep", 600), ("keep", 600)])
        self.assertEqual(whole.rows(), [("put", [66] * 600 + [65] * 600), ("keep", 600)])
        self.assertEqual(whole.inverted(Text([67] * 600)).rows(), [("drop", 1200), ("keep", 600)])
        self.assertEqual((one + Delta([("drop", 600), ("keep", 600)])).rows(), [("keep", 600)])
        many = Delta([("keep", 1), ("put", [65])] * 600)
        self.assertEqual(len((many + Delta([("keep", 600), ("keep", 600)])).rows()), 1200)


class MovingOver(ErrorCase):

    def test_over(self):
        source = random.Random(66)
        for _ in range(500):
            size = source.randint(0, 8)
            chars = list(range(10000, 10000 + size))
            one = Delta(random_rows(source, size, 3, 100))
            # The characters that the other one puts are made distinct, so that they can be found again.
            other = Delta(distinct(random_rows(source, size, 3)))
            for first in [True, False]:
                moved = one.over(other, first=first)
                self.assertIs(type(moved), Delta)
                after = other(Text(chars)).chars()
                wanted = both(one, other, chars, first)
                self.assertEqual(moved(Text(after)).chars(), wanted)
                self.assertEqual(moved.rows(), rows_to(after, wanted))

    def test_both_ways_lead_to_the_same(self):
        source = random.Random(67)
        for _ in range(500):
            size = source.randint(0, 8)
            one = Delta(random_rows(source, size, 3))
            other = Delta(random_rows(source, size, 3))
            self.assertEqual(one + other.over(one, first=False), other + one.over(other, first=True))
            self.assertEqual(one + other.over(one, first=True), other + one.over(other, first=False))

    def test_examples_by_hand(self):
        put_x = Delta([("keep", 1), ("put", [88]), ("keep", 1)])
        put_y = Delta([("keep", 1), ("put", [89]), ("keep", 1)])
        self.assertEqual(put_x.over(put_y, first=True).rows(), [("keep", 1), ("put", [88]), ("keep", 2)])
        self.assertEqual(put_x.over(put_y, first=False).rows(), [("keep", 2), ("put", [88]), ("keep", 1)])
        drop = Delta([("drop", 2)])
        self.assertEqual(drop.over(drop, first=True).rows(), [])
        self.assertEqual(drop.over(put_y, first=False).rows(), [("drop", 1), ("keep", 1), ("drop", 1)])
        self.assertEqual(put_x.over(drop, first=False).rows(), [("put", [88])])
        # The put counts as put into the gap ahead of the dropped characters.
        late = Delta([("drop", 2), ("put", [88])])
        self.assertEqual(late.over(put_y, first=False).rows(),
                         [("put", [88]), ("drop", 1), ("keep", 1), ("drop", 1)])

    def test_wrong_arguments_in_their_order(self):
        one = Delta([("keep", 1), ("drop", 1)])
        for value in no_deltas():
            self.raised(InvalidDelta, {"value": value}, one.over, value, first=None)
        for rows in [[], [("keep", 1)], [("keep", 3)], [("put", [1, 2])]]:
            other = Delta(rows)
            self.raised(Mismatch, {"value": other}, one.over, other, first=None)
        for value in odd_values():
            if value is not True and value is not False:
                self.raised(InvalidFlag, {"value": value}, one.over, one, first=value)
        with self.assertRaises(TypeError):
            one.over(one)
        with self.assertRaises(TypeError):
            one.over(one, True)
        self.assertEqual(one.over(first=True, other=one).rows(), [("keep", 1)])

    def test_nothing_has_changed(self):
        one, other = Delta([("put", [88]), ("drop", 2)]), Delta([("keep", 1), ("put", [89]), ("keep", 1)])
        text = Text([97, 98])
        rows = [one.rows(), other.rows()]
        self.assertEqual([one.over(other, first=True), one.over(other, first=True)],
                         [one.over(other, first=True), one.over(other, first=True)])
        one.inverted(text)
        one(text)
        merged(one, other)
        self.assertEqual([one.rows(), other.rows(), text.chars()], rows + [[97, 98]])


def distinct(rows):
    found = []
    char = 20000
    for word, what in rows:
        if word == "put":
            found.append((word, list(range(char, char + len(what)))))
            char += len(what)
        else:
            found.append((word, what))
    return found


def gaps(delta):
    """A dict from each gap to what a delta puts there, and the list of the indices that it drops."""
    puts = {}
    dropped = []
    at = 0
    for word, what in delta.rows():
        if word == "put":
            puts[at] = what
        else:
            dropped += range(at, at + what) if word == "drop" else []
            at += what
    return puts, dropped


def both(one, other, chars, first):
    """The characters after both deltas, gap by gap."""
    puts, dropped = gaps(one)
    other_puts, other_dropped = gaps(other)
    found = []
    for gap in range(len(chars) + 1):
        here = [puts.get(gap, []), other_puts.get(gap, [])]
        found += here[0] + here[1] if first else here[1] + here[0]
        if gap < len(chars) and gap not in dropped + other_dropped:
            found.append(chars[gap])
    return found


class BetweenAndMerged(ErrorCase):

    def test_between(self):
        for one, other, wanted in [
                ([], [], []), ([], [1], [("put", [1])]), ([1], [], [("drop", 1)]), ([1, 2], [1, 2], [("keep", 2)]),
                ([1, 2, 3], [1, 9, 3], [("keep", 1), ("put", [9]), ("drop", 1), ("keep", 1)]),
                ([1, 1], [1], [("keep", 1), ("drop", 1)]), ([1], [1, 1], [("keep", 1), ("put", [1])]),
                ([1, 2, 1], [1, 2, 1, 2, 1], [("keep", 3), ("put", [2, 1])]),
                ([1, 2, 1, 2, 1], [1, 2, 1], [("keep", 3), ("drop", 2)]),
                ([1, 2, 3, 1], [1, 3, 1], [("keep", 1), ("drop", 1), ("keep", 2)]),
                ([5, 1, 2], [6, 1, 2], [("put", [6]), ("drop", 1), ("keep", 2)]),
                ([1, 2], [3, 4, 5], [("put", [3, 4, 5]), ("drop", 2)])]:
            self.assertEqual(between(Text(one), Text(other)).rows(), wanted)
        self.assertEqual(between(other=Text([1]), one=Text([])).rows(), [("put", [1])])

    def test_between_random_texts(self):
        source = random.Random(68)
        for _ in range(300):
            one = [source.choice([97, 98]) for _ in range(source.randint(0, 8))]
            other = [source.choice([97, 98]) for _ in range(source.randint(0, 8))]
            delta = between(Text(one), Text(other))
            self.assertEqual(delta(Text(one)).chars(), other)
            start = max([size for size in range(min(len(one), len(other)) + 1) if one[:size] == other[:size]])
            left, right = one[start:], other[start:]
            end = max([size for size in range(min(len(left), len(right)) + 1)
                       if left[len(left) - size:] == right[len(right) - size:]])
            wanted = [("keep", start), ("put", right[:len(right) - end]), ("drop", len(left) - end), ("keep", end)]
            self.assertEqual(delta.rows(), normal_rows(wanted))

    def test_between_of_great_texts(self):
        one, other = Text([65] * 700), Text([66] * 701)
        self.assertEqual(between(one, other)(one), other)

    def test_between_of_other_things(self):
        for value in no_texts():
            self.raised(InvalidText, {"value": value}, between, value, None)
            self.raised(InvalidText, {"value": value}, between, Text([]), value)

    def test_merged(self):
        source = random.Random(69)
        for _ in range(200):
            size = source.randint(0, 8)
            deltas = [Delta(random_rows(source, size, 3)) for _ in range(source.randint(1, 5))]
            whole = deltas[0]
            for delta in deltas[1:]:
                whole = whole + delta.over(whole, first=False)
            found = merged(*deltas)
            self.assertIs(type(found), Delta)
            self.assertEqual(found, whole)
            dropped = [at for delta in deltas for at in gaps(delta)[1]]
            self.assertEqual(gaps(found)[1], sorted(set(dropped)))

    def test_merged_puts_at_the_same_place_stand_in_order(self):
        deltas = [Delta([("keep", 1), ("put", [char]), ("keep", 1)]) for char in [88, 89, 90]]
        self.assertEqual(merged(*deltas).rows(), [("keep", 1), ("put", [88, 89, 90]), ("keep", 1)])

    def test_merged_of_none_and_of_one(self):
        self.raised(NoDelta, {}, merged)
        delta = Delta([("drop", 1), ("put", [5])])
        self.assertEqual(merged(delta), delta)

    def test_merged_of_other_things_in_their_order(self):
        one, other, third = Delta([("keep", 1)]), Delta([("keep", 2)]), Delta([])
        for value in no_deltas():
            self.raised(InvalidDelta, {"value": value}, merged, value)
            self.raised(InvalidDelta, {"value": value}, merged, one, other, value, None)
        self.raised(Mismatch, {"value": other}, merged, one, other)
        self.raised(Mismatch, {"value": other}, merged, one, one, other, third)
        self.raised(Mismatch, {"value": third}, merged, one, third, other)


if __name__ == "__main__":
    unittest.main()
