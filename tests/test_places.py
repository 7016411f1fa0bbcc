"""Promises 41 to 44: places in a text, and cursors."""

import copy
import random
import unittest

from tests.helper import (EDGE_CHARS, KINDS, NO_KINDS, ErrorCase, counts_after, is_plain_integer, no_integers,
                          no_texts, odd_values, random_chars)
from threecounts.errors import BadPlace, InvalidChars, InvalidInteger, InvalidKind, InvalidText, MidChar, Mismatch
from threecounts.places import Cursor, Place, is_place, nearest, numbers, place_at, translated
from threecounts.texts import Text

SAMPLE = [104, 8364, 128512]
SAMPLES = [[], [0], [97, 98, 99], SAMPLE, [128512, 128512], EDGE_CHARS, [233, 13, 10, 128512, 65535]]
HUGE = 10 ** 30


def between(places, number):
    """The places before and after a number within a character, None if it is the number of a place."""
    if number in places:
        return None
    return max([place for place in places if place < number]), min([place for place in places if place > number])


class Places(ErrorCase):

    def test_each_place(self):
        for chars in SAMPLES:
            text = Text(chars)
            counts = counts_after(chars)
            for ahead in range(len(chars) + 1):
                place = Place(text, ahead)
                self.assertIs(place.text(), text)
                self.assertEqual([place.count(kind) for kind in KINDS], [counts[kind][ahead] for kind in KINDS])
                self.assertEqual([place.in_bytes, place.in_units, place.in_chars],
                                 [counts["bytes"][ahead], counts["units"][ahead], ahead])
                self.assertEqual(place.before(), chars[ahead - 1] if ahead > 0 else None)
                self.assertEqual(place.after(), chars[ahead] if ahead < len(chars) else None)

    def test_arguments_by_name(self):
        place = Place(chars=2, text=Text(SAMPLE))
        self.assertEqual([place.count(kind="bytes"), place.in_chars], [4, 2])

    def test_no_text(self):
        for value in no_texts():
            self.raised(InvalidText, {"value": value}, Place, value, 0)
            self.raised(InvalidText, {"value": value}, Place, value, "x")

    def test_no_such_place(self):
        for value in no_integers() + [-1, 4, HUGE, -HUGE]:
            self.raised(BadPlace, {"number": value}, Place, Text(SAMPLE), value)
        self.raised(BadPlace, {"number": 1}, Place, Text([]), 1)

    def test_wrong_kinds(self):
        for kind in NO_KINDS:
            self.raised(InvalidKind, {"value": kind}, Place(Text(SAMPLE), 1).count, kind)

    def test_plus(self):
        for chars in SAMPLES:
            text = Text(chars)
            for ahead in range(len(chars) + 1):
                for number in range(-len(chars) - 3, len(chars) + 4):
                    place = Place(text, ahead)
                    if 0 <= ahead + number <= len(chars):
                        found = place + number
                        self.assertIs(type(found), Place)
                        self.assertEqual(found.in_chars, ahead + number)
                        self.assertEqual(found.text(), text)
                    else:
                        self.raised(BadPlace, {"number": number}, lambda: place + number)
                    self.assertEqual(place.in_chars, ahead)

    def test_plus_of_no_integers(self):
        place = Place(Text(SAMPLE), 1)
        for value in no_integers() + [HUGE, -HUGE, Text(SAMPLE), Place(Text(SAMPLE), 1), "1", [33]]:
            self.raised(BadPlace, {"number": value}, lambda: place + value)

    def test_text_plus_place(self):
        place = Place(Text(SAMPLE), 1)
        self.raised(InvalidChars, {"value": place}, lambda: Text(SAMPLE) + place)

    def test_minus(self):
        for chars in SAMPLES:
            for one in range(len(chars) + 1):
                for other in range(len(chars) + 1):
                    self.assertEqual(Place(Text(chars), one) - Place(Text(list(chars)), other), one - other)

    def test_minus_of_other_things(self):
        place = Place(Text(SAMPLE), 1)
        others = no_integers() + [0, 1, -1, HUGE, Cursor(Text(SAMPLE)), Text(SAMPLE)]
        for value in others + [Place(Text(SAMPLE[:2]), 1), Place(Text([]), 0), Place(Text([104, 8364, 33]), 1)]:
            self.raised(Mismatch, {"value": value}, lambda: place - value)

    def test_equality(self):
        text = Text(SAMPLE)
        self.assertTrue(Place(text, 1) == Place(Text(SAMPLE), 1))
        self.assertFalse(Place(text, 1) != Place(Text(SAMPLE), 1))
        self.assertFalse(Place(text, 1) == Place(text, 2))
        self.assertFalse(Place(text, 1) == Place(Text([104, 8364]), 1))
        self.assertFalse(Place(text, 1) == Place(Text([104, 8364, 33]), 1))
        self.assertTrue(Place(Text([]), 0) == Place(Text([]), 0))
        for value in odd_values() + [text, 1, Cursor(text, 1)]:
            self.assertIs(Place(text, 1) == value, False)
            self.assertIs(value == Place(text, 1), False)

    def test_repr_stays_the_same(self):
        place = Place(Text(SAMPLE), 1)
        self.assertIsInstance(repr(place), str)
        self.assertEqual(repr(place), repr(place))


class PlacesByNumber(ErrorCase):

    def test_every_number(self):
        for chars in SAMPLES:
            text = Text(chars)
            counts = counts_after(chars)
            for kind in KINDS:
                for number in range(-3, counts[kind][-1] + 4):
                    self.check_number(text, number, kind, counts)

    def check_number(self, text, number, kind, counts):
        calls = [(place_at, (text, number, kind))] + [(translated, (text, number, kind, other)) for other in KINDS]
        places = counts[kind]
        self.assertIs(is_place(text, number, kind), number in places)
        if not 0 <= number <= places[-1]:
            for call, args in calls:
                self.raised(BadPlace, {"number": number}, call, *args)
        elif number not in places:
            start, end = between(places, number)
            for call, args in calls:
                self.raised(MidChar, {"number": number, "start": start, "end": end}, call, *args)
        else:
            ahead = places.index(number)
            self.assertEqual(place_at(text, number, kind), Place(text, ahead))
            for other in KINDS:
                self.assertEqual(translated(text, number, kind, other), counts[other][ahead])

    def test_nearest_of_every_number(self):
        for chars in SAMPLES:
            text = Text(chars)
            counts = counts_after(chars)
            for kind in KINDS:
                places = counts[kind]
                for number in list(range(-3, places[-1] + 4)) + [HUGE, -HUGE]:
                    below = [ahead for ahead, place in enumerate(places) if place <= number]
                    above = [ahead for ahead, place in enumerate(places) if place >= number]
                    wanted = Place(text, below[-1] if below else 0)
                    self.assertEqual(nearest(text, number, kind), wanted)
                    self.assertEqual(nearest(text, number, kind, after=False), wanted)
                    wanted = Place(text, above[0] if above else len(chars))
                    self.assertEqual(nearest(text, number, kind, after=True), wanted)

    def test_numbers(self):
        for chars in SAMPLES + [[128512] * 600]:
            counts = counts_after(chars)
            for kind in KINDS:
                self.assertEqual(numbers(Text(chars), kind), counts[kind])
                self.assertIs(type(numbers(Text(chars), kind)), list)

    def test_numbers_are_a_new_list_each_time(self):
        text = Text(SAMPLE)
        for kind in KINDS:
            first = numbers(text, kind)
            wanted = list(first)
            first.append(99)
            first[0] = 5
            self.assertEqual(numbers(text, kind), wanted)

    def test_no_text_comes_first(self):
        for value in no_texts():
            self.raised(InvalidText, {"value": value}, place_at, value, "x", "x")
            self.raised(InvalidText, {"value": value}, translated, value, "x", "x", "x")
            self.raised(InvalidText, {"value": value}, is_place, value, "x", "x")
            self.raised(InvalidText, {"value": value}, numbers, value, "x")
            self.raised(InvalidText, {"value": value}, nearest, value, "x", "x")

    def test_no_kind_comes_before_the_number(self):
        text = Text(SAMPLE)
        for kind in NO_KINDS:
            for number in [0, 2, 99, None]:
                self.raised(InvalidKind, {"value": kind}, place_at, text, number, kind)
                self.raised(InvalidKind, {"value": kind}, translated, text, number, kind, "x")
                self.raised(InvalidKind, {"value": kind}, translated, text, number, "bytes", kind)
                self.raised(InvalidKind, {"value": kind}, is_place, text, number, kind)
            self.raised(InvalidKind, {"value": kind}, numbers, text, kind)

    def test_no_integer(self):
        text = Text(SAMPLE)
        for value in no_integers() + [HUGE, -HUGE]:
            for kind in KINDS:
                self.raised(BadPlace, {"number": value}, place_at, text, value, kind)
                self.raised(BadPlace, {"number": value}, translated, text, value, kind, "chars")
                self.assertIs(is_place(text, value, kind), False)

    def test_nearest_of_no_integer_comes_before_the_kind(self):
        for value in no_integers():
            for kind in ["bytes", "x"]:
                for after in [False, True]:
                    self.raised(InvalidInteger, {"value": value}, nearest, Text(SAMPLE), value, kind, after=after)
        for kind in NO_KINDS:
            self.raised(InvalidKind, {"value": kind}, nearest, Text(SAMPLE), HUGE, kind)

    def test_arguments_by_name(self):
        text = Text(SAMPLE)
        self.assertEqual(place_at(kind="bytes", number=4, text=text).in_chars, 2)
        self.assertEqual(translated(other="units", kind="bytes", number=4, text=text), 2)
        self.assertIs(is_place(kind="bytes", number=4, text=text), True)
        self.assertEqual(numbers(kind="units", text=text), [0, 1, 2, 4])
        self.assertEqual(nearest(after=True, kind="bytes", number=2, text=text).in_chars, 2)
        with self.assertRaises(TypeError):
            nearest(text, 2, "bytes", True)


class Cursors(ErrorCase):

    def at(self, cursor, text, ahead):
        self.assertEqual(cursor.place(), Place(text, ahead))
        self.assertEqual([cursor.count(kind) for kind in KINDS], [Place(text, ahead).count(kind) for kind in KINDS])

    def test_beginnings(self):
        text = Text(SAMPLE)
        self.at(Cursor(text), text, 0)
        for ahead in range(4):
            self.at(Cursor(text, ahead), text, ahead)
            self.at(Cursor(chars=ahead, text=text), text, ahead)
        for value in no_texts():
            self.raised(InvalidText, {"value": value}, Cursor, value, "x")
        for value in no_integers() + [-1, 4, HUGE]:
            self.raised(BadPlace, {"number": value}, Cursor, text, value)

    def test_a_cursor_is_no_place(self):
        cursor = Cursor(Text(SAMPLE))
        self.assertNotIsInstance(cursor, Place)
        self.assertTrue(cursor == cursor)
        self.assertFalse(cursor == Cursor(Text(SAMPLE)))

    def test_set_in_each_kind(self):
        for chars in SAMPLES:
            text = Text(chars)
            counts = counts_after(chars)
            for kind in KINDS:
                cursor = Cursor(text, len(chars) // 2)
                for number in range(-2, counts[kind][-1] + 3):
                    if number in counts[kind]:
                        cursor[kind] = number
                        self.at(cursor, text, counts[kind].index(number))
                    else:
                        self.refused(cursor, number, kind, counts[kind])

    def refused(self, cursor, number, kind, places):
        before = cursor.place()
        if 0 <= number <= places[-1]:
            start, end = between(places, number)
            self.raised(MidChar, {"number": number, "start": start, "end": end}, cursor.__setitem__, kind, number)
        else:
            self.raised(BadPlace, {"number": number}, cursor.__setitem__, kind, number)
        self.assertEqual(cursor.place(), before)

    def test_what_cannot_be_set(self):
        cursor = Cursor(Text(SAMPLE), 1)
        for value in no_integers() + [HUGE, -HUGE]:
            self.raised(BadPlace, {"number": value}, cursor.__setitem__, "bytes", value)
        for kind in NO_KINDS:
            self.raised(InvalidKind, {"value": kind}, cursor.__setitem__, kind, "x")
            self.raised(InvalidKind, {"value": kind}, cursor.count, kind)
            self.raised(InvalidKind, {"value": kind}, cursor.read, "x", kind)
        self.at(cursor, Text(SAMPLE), 1)

    def test_on_and_back(self):
        text = Text(EDGE_CHARS)
        for ahead in range(len(EDGE_CHARS) + 1):
            for number in range(-len(EDGE_CHARS) - 2, len(EDGE_CHARS) + 3):
                for sign in [1, -1]:
                    self.step(text, ahead, number, sign)

    def step(self, text, ahead, number, sign):
        cursor = held = Cursor(text, ahead)
        if 0 <= ahead + sign * number <= len(text):
            if sign == 1:
                cursor += number
            else:
                cursor -= number
            self.assertIs(cursor, held)
            self.assertEqual(cursor.place().in_chars, ahead + sign * number)
        else:
            call = cursor.__iadd__ if sign == 1 else cursor.__isub__
            self.raised(BadPlace, {"number": number}, call, number)
            self.assertEqual(cursor.place().in_chars, ahead)

    def test_steps_of_no_integers(self):
        cursor = Cursor(Text(SAMPLE), 1)
        for value in no_integers() + [HUGE, -HUGE, Place(Text(SAMPLE), 1)]:
            self.raised(BadPlace, {"number": value}, cursor.__iadd__, value)
            self.raised(BadPlace, {"number": value}, cursor.__isub__, value)
        self.at(cursor, Text(SAMPLE), 1)

    def test_read_every_number(self):
        for chars in SAMPLES:
            text = Text(chars)
            counts = counts_after(chars)
            for kind in KINDS:
                for ahead in range(len(chars) + 1):
                    for number in range(-2, counts[kind][-1] - counts[kind][ahead] + 3):
                        self.read(text, ahead, number, kind, counts[kind])

    def read(self, text, ahead, number, kind, places):
        cursor = Cursor(text, ahead)
        end = places[ahead] + number
        if end in places[ahead:]:
            part = cursor.read(number, kind)
            self.assertIs(type(part), Text)
            self.assertEqual(part.chars(), text.chars()[ahead:places.index(end)])
            self.at(cursor, text, places.index(end))
            return
        if 0 <= number <= places[-1] - places[ahead]:
            start, stop = between(places, end)
            self.raised(MidChar, {"number": end, "start": start, "end": stop}, cursor.read, number, kind)
        else:
            self.raised(BadPlace, {"number": number}, cursor.read, number, kind)
        self.at(cursor, text, ahead)

    def test_read_of_no_integers(self):
        cursor = Cursor(Text(SAMPLE), 1)
        for value in no_integers() + [HUGE, -HUGE]:
            for kind in KINDS:
                self.raised(BadPlace, {"number": value}, cursor.read, value, kind)
        self.at(cursor, Text(SAMPLE), 1)
        self.assertEqual(cursor.read(kind="units", number=3).chars(), SAMPLE[1:])

    def test_two_cursors_on_one_text_by_turns(self):
        source = random.Random(44)
        for _ in range(40):
            chars = random_chars(source, 20)
            text = Text(chars)
            counts = counts_after(chars)
            cursors = [Cursor(text), Cursor(text, len(chars))]
            places = [0, len(chars)]
            for _ in range(60):
                which = source.randrange(2)
                ahead = source.randint(0, len(chars))
                kind = source.choice(KINDS)
                cursor = cursors[which]
                way = source.randrange(4)
                if way == 0:
                    cursor[kind] = counts[kind][ahead]
                elif way == 1:
                    cursor += ahead - places[which]
                elif way == 2:
                    cursor -= places[which] - ahead
                elif ahead >= places[which]:
                    cursor.read(counts[kind][ahead] - counts[kind][places[which]], kind)
                else:
                    ahead = places[which]
                places[which] = ahead
                for one, place in zip(cursors, places):
                    self.at(one, text, place)
            self.assertEqual(text.chars(), chars)

    def test_places_that_were_told_stay(self):
        cursor = Cursor(Text(SAMPLE), 1)
        place = cursor.place()
        cursor += 1
        self.assertEqual([place.in_chars, cursor.place().in_chars], [1, 2])


class Guarantees(ErrorCase):

    def test_there_and_back(self):
        for chars in SAMPLES:
            text = Text(chars)
            for kind in KINDS:
                for number in numbers(text, kind):
                    for other in KINDS:
                        there = translated(text, number, kind, other)
                        self.assertTrue(is_plain_integer(there))
                        self.assertEqual(translated(text, there, other, kind), number)

    def test_arguments_are_left_alone(self):
        chars = list(SAMPLE)
        text = Text(chars)
        for call in [lambda: place_at(text, 4, "bytes"), lambda: numbers(text, "units"),
                     lambda: nearest(text, 5, "bytes"), lambda: Cursor(text).read(2, "chars")]:
            before = copy.deepcopy(text.chars())
            call()
            self.assertEqual(text.chars(), before)


if __name__ == "__main__":
    unittest.main()
