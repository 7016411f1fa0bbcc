"""Promises 91 to 93: the index."""

import random
import unittest

from tests.helper import (KINDS, NO_CHARS, NO_KINDS, ErrorCase, counts_after, is_plain_integer, no_texts, odd_values,
                          random_chars)
from threecounts.errors import BadPlace, InvalidChar, InvalidChars, InvalidKind, InvalidText, MidChar
from threecounts.index import Index
from threecounts.texts import Text

HUGE = 10 ** 30


def line_starts(chars):
    """After how many characters each line begins."""
    starts = [0]
    for at, char in enumerate(chars):
        if char == 10 or (char == 13 and chars[at + 1:at + 2] != [10]):
            starts.append(at + 1)
    return starts


class Tree:
    """What the rows of looked blocks tell of the tree: each block's place below the others never changes."""

    def __init__(self, case, index):
        self.case = case
        self.blocks = index.blocks()
        self.height = index.height()
        self.above = {}
        self.children = {}

    def add(self, way, number):
        """Check the blocks that a call looked at on its way to a place after so many characters."""
        case = self.case
        case.assertIs(type(way), list)
        case.assertTrue(1 <= len(way) <= self.height)
        for block in way:
            case.assertIn(block, self.blocks)
        case.assertTrue(way[-1][0] <= number <= way[-1][1])
        for above, block in zip([None] + way, way):
            case.assertEqual(self.above.setdefault(block, above), above)
            if above is not None:
                side = "left" if block < above else "right"
                case.assertEqual(self.children.setdefault((above, side), block), block)
        # On the way down, each block lies on the side to which the way has gone from all blocks above it.
        low, high = 0, self.blocks[-1][1]
        for block, following in zip(way, way[1:]):
            low, high = (low, block[0]) if following < block else (block[1], high)
            case.assertTrue(low <= following[0] and following[1] <= high)

    def check_whole(self):
        """Check that all blocks hang on one root, none deeper than the height, one at least as deep as it."""
        if self.blocks:
            roots = [block for block in self.blocks if self.above[block] is None]
            self.case.assertEqual(len(roots), 1)
            self.case.assertEqual(max([self.depth(block) for block in self.blocks]), self.height)

    def depth(self, block):
        above = self.above[block]
        return 1 if above is None else 1 + self.depth(above)


class IndexCase(ErrorCase):

    def check_blocks(self, index, chars):
        blocks = index.blocks()
        self.assertIs(type(blocks), list)
        ends = [0]
        for block in blocks:
            self.assertIs(type(block), tuple)
            self.assertEqual(block[0], ends[-1])
            self.assertTrue(1 <= block[1] - block[0] <= 8)
            ends.append(block[1])
        self.assertEqual(ends[-1], len(chars))
        for start, end in zip(ends, ends[2:]):
            self.assertGreater(end - start, 8)
        self.assertLessEqual(2 ** index.height(), (len(blocks) + 1) ** 2)
        self.assertEqual(index.height() == 0, chars == [])

    def check_small(self, index, chars):
        """Check what can be told without looking for a place."""
        self.assertIs(type(index.text()), Text)
        self.assertEqual(index.text().chars(), chars)
        counts = counts_after(chars)
        self.assertEqual([index.count(kind) for kind in KINDS], [counts[kind][-1] for kind in KINDS])
        self.assertEqual(index.lines(), len(line_starts(chars)))
        self.check_blocks(index, chars)

    def check(self, index, chars):
        """Check all that an index tells against the characters themselves."""
        self.check_small(index, chars)
        tree = Tree(self, index)
        counts = counts_after(chars)
        places = list(zip(*[counts[kind] for kind in KINDS]))
        for kind in KINDS:
            for ahead, number in enumerate(counts[kind]):
                self.assertEqual(index.find(number, kind), places[ahead])
                self.check_way(index, tree, ahead, chars == [])
            self.check_no_places(index, kind, counts[kind])
        starts = line_starts(chars)
        for ahead in range(len(chars) + 1):
            self.assertEqual(index.line_of(ahead), len([start for start in starts if start <= ahead]) - 1)
            self.check_way(index, tree, ahead, chars == [])
        for line, start in enumerate(starts):
            self.assertEqual(index.line_start(line), start)
            self.check_way(index, tree, start, line == 0)
        tree.check_whole()

    def check_way(self, index, tree, ahead, is_free):
        if is_free:
            self.assertEqual(index.looked(), [])
        else:
            tree.add(index.looked(), ahead)

    def check_no_places(self, index, kind, counts):
        """Every number within a character is refused, and looked() stays."""
        before = index.looked()
        for ahead in range(len(counts) - 1):
            start, end = counts[ahead], counts[ahead + 1]
            for number in range(start + 1, end):
                fields = {"number": number, "start": start, "end": end}
                self.raised(MidChar, fields, index.find, number, kind)
        self.raised(BadPlace, {"number": counts[-1] + 1}, index.find, counts[-1] + 1, kind)
        self.raised(BadPlace, {"number": -1}, index.find, -1, kind)
        self.assertEqual(index.looked(), before)

    def change(self, index, chars, start, end, new):
        """Replace characters, check that the blocks far from there stay, and return the characters then."""
        before = index.blocks()
        moved = len(new) - (end - start)
        self.assertIsNone(index.replace(start, end, new))
        self.assertEqual(index.looked(), [])
        after = index.blocks()
        for block in before:
            if block[1] <= start - 16:
                self.assertIn(block, after)
            if block[0] >= end + 24:
                self.assertIn((block[0] + moved, block[1] + moved), after)
        return chars[:start] + list(new) + chars[end:]


class Texts(IndexCase):

    def test_texts_of_every_length(self):
        source = random.Random(91)
        for size in list(range(30)) + [63, 64, 65, 120]:
            chars = [source.choice([97, 10, 13, 233, 8364, 128512]) for _ in range(size)]
            self.check(Index(Text(chars)), chars)

    def test_the_longest_text(self):
        for chars in [[128512] * 600, [13, 10] * 300, [10] * 600, [13] * 600]:
            self.check(Index(Text(chars)), chars)

    def test_the_empty_text(self):
        index = Index(Text([]))
        self.assertEqual([index.blocks(), index.height(), index.lines(), index.looked()], [[], 0, 1, []])
        for kind in KINDS:
            self.assertEqual(index.find(0, kind), (0, 0, 0))
            self.assertEqual([index.count(kind), index.looked()], [0, []])
        self.assertEqual([index.line_of(0), index.looked(), index.line_start(0), index.looked()], [0, [], 0, []])

    def test_ends_of_lines_at_the_ends_of_blocks(self):
        # With 9 to 24 characters before them, 13 and 10 stand in one block and in two.
        for size in range(25):
            for middle in [[13, 10], [13, 97, 10], [10, 13], [13, 13, 10, 10], [13], [10]]:
                for more in [0, 1, 9]:
                    chars = [97] * size + middle + [98] * more
                    self.check(Index(Text(chars)), chars)

    def test_no_text(self):
        for value in no_texts():
            self.raised(InvalidText, {"value": value}, Index, value)

    def test_equality(self):
        one, other = Index(Text([97] * 20)), Index(Text([]))
        self.assertFalse(one == other)
        for at in range(20):
            other.replace(at // 2, at // 2, [97])
        self.assertNotEqual(one.blocks(), other.blocks())
        self.assertTrue(one == other)
        self.assertFalse(one != other)
        other.find(4, "bytes")
        self.assertTrue(one == other)
        other.replace(0, 1, [98])
        self.assertFalse(one == other)
        for value in odd_values() + [one.text(), one.text().chars()]:
            self.assertIs(one == value, False)
            self.assertIs(value == one, False)

    def test_repr_stays_the_same(self):
        index = Index(Text([97]))
        self.assertIsInstance(repr(index), str)
        self.assertEqual(repr(index), repr(index))


class Looking(IndexCase):

    def test_the_newest_call_that_raised_nothing(self):
        index = Index(Text([97] * 60))
        self.assertEqual(index.looked(), [])
        index.find(30, "bytes")
        first = index.looked()
        for call, args in [(index.find, (61, "bytes")), (index.find, (0, "x")), (index.line_of, (61,)),
                           (index.line_start, (1,)), (index.replace, (3, 2, []))]:
            with self.assertRaises(ValueError):
                call(*args)
            self.assertEqual(index.looked(), first)
        index.line_of(1)
        self.assertNotEqual(index.looked(), first)
        self.assertEqual(index.looked()[0], first[0])
        index.line_start(0)
        self.assertEqual(index.looked(), [])

    def test_other_calls_leave_it(self):
        index = Index(Text([97, 10, 98] * 10))
        index.line_start(5)
        first = index.looked()
        self.assertGreater(len(first), 0)
        index.text(), index.lines(), index.blocks(), index.height(), index.count("units"), index == Index(Text([]))
        self.assertEqual(index.looked(), first)

    def test_the_way_is_always_the_same(self):
        index = Index(Text([97, 10, 8364] * 30))
        ways = []
        for _ in range(3):
            index.find(35, "bytes")
            ways.append(index.looked())
            index.line_start(7)
        self.assertEqual(ways, [ways[0]] * 3)

    def test_few_blocks_of_many(self):
        index = Index(Text([97] * 600))
        many = len(index.blocks())
        self.assertGreaterEqual(many, 75)
        for number in range(601):
            index.find(number, "bytes")
            self.assertLessEqual(2 ** len(index.looked()), (many + 1) ** 2)


class Changes(IndexCase):

    def test_random_changes(self):
        source = random.Random(92)
        for most in [2, 9, 40]:
            for _ in range(6):
                chars = random_chars(source, 40)
                index = Index(Text(chars))
                for _ in range(60):
                    start = source.randint(0, len(chars))
                    end = min(len(chars), start + source.choice([0, 0, 1, 3, source.randint(0, 2 * most)]))
                    new = random_chars(source, most)
                    chars = self.change(index, chars, start, end, source.choice([list, tuple])(new))
                    self.check_small(index, chars)
                    if source.randrange(6) == 0:
                        self.check(index, chars)

    def test_long_rows_of_changes_at_the_beginning_at_the_end_and_within(self):
        for place in [lambda size: 0, lambda size: size, lambda size: size // 2, lambda size: size * 7 // 10,
                      lambda size: min(size, 16), lambda size: max(0, size - 3)]:
            chars = []
            index = Index(Text(chars))
            for step in range(100):
                at = place(len(chars))
                chars = self.change(index, chars, at, at, [[13, 10, 97, 8364, 128512, 13][step * 5 % 6]])
                self.check_small(index, chars)
            self.check(index, chars)
            for _ in range(99):
                at = min(place(len(chars)), len(chars) - 1)
                chars = self.change(index, chars, at, at + 1, [])
                self.check_small(index, chars)
            self.check(index, chars)

    def test_many_characters_at_once_and_to_the_empty_text_and_back(self):
        source = random.Random(93)
        chars = []
        index = Index(Text(chars))
        for size in [600, 0, 1, 0, 9, 0, 8, 0, 17, 600, 300, 0, 120]:
            new = [source.choice([97, 10, 13, 8364, 128512]) for _ in range(size)]
            chars = self.change(index, chars, 0, len(chars), new)
            self.check(index, chars)
        for _ in range(30):
            start = source.randint(0, len(chars))
            end = source.randint(start, len(chars))
            new = [128512] * source.randint(0, min(200, 600 - len(chars) + end - start))
            chars = self.change(index, chars, start, end, new)
            self.check_small(index, chars)
        self.check(index, chars)

    def test_every_change_of_a_short_text(self):
        for size in [0, 1, 8, 9, 17, 26]:
            chars = list(range(1000, 1000 + size))
            for start in range(size + 1):
                for end in range(start, size + 1):
                    for many in [0, 1, 7, 12]:
                        index = Index(Text(chars))
                        self.check_small(index, self.change(index, chars, start, end, [97] * many))

    def test_characters_one_by_one_between_full_blocks(self):
        chars = [97] * 64
        index = Index(Text(chars))
        for at in range(0, 70, 9):
            chars = self.change(index, chars, at, at, [98])
            self.check_small(index, chars)
        for at in range(60, 0, -7):
            chars = self.change(index, chars, at, at + 7, [])
            self.check_small(index, chars)

    def test_13_and_10_brought_together_and_apart(self):
        chars = [97] * 7 + [13] + [98] * 3 + [10] + [99] * 9
        index = Index(Text(chars))
        chars = self.change(index, chars, 8, 11, [])
        self.check(index, chars)
        self.assertEqual(index.lines(), 2)
        chars = self.change(index, chars, 8, 8, [100])
        self.check(index, chars)
        self.assertEqual(index.lines(), 3)
        chars = self.change(index, chars, 7, 8, [])
        self.check(index, chars)


class Refusals(IndexCase):

    def refused(self, kind, fields, index, call, *args):
        before = [index.text().chars(), index.blocks(), index.looked()]
        self.raised(kind, fields, call, *args)
        self.assertEqual([index.text().chars(), index.blocks(), index.looked()], before)

    def indexes(self):
        found = [Index(Text([])), Index(Text([97, 10, 8364])), Index(Text([128512, 10] * 20))]
        found[1].find(1, "bytes")
        found[2].line_start(7)
        return found

    def wrong_numbers(self, most):
        return [-1, most + 1, HUGE, -HUGE] + [value for value in odd_values() if not is_plain_integer(value)]

    def test_count_and_find(self):
        for index in self.indexes():
            for kind in NO_KINDS:
                self.refused(InvalidKind, {"value": kind}, index, index.count, kind)
                self.refused(InvalidKind, {"value": kind}, index, index.find, None, kind)
            for kind in KINDS:
                for number in self.wrong_numbers(index.count(kind)):
                    self.refused(BadPlace, {"number": number}, index, index.find, number, kind)

    def test_lines(self):
        for index in self.indexes():
            for number in self.wrong_numbers(index.count("chars")):
                self.refused(BadPlace, {"number": number}, index, index.line_of, number)
            for number in self.wrong_numbers(index.lines() - 1):
                self.refused(BadPlace, {"number": number}, index, index.line_start, number)

    def test_replace(self):
        for index in self.indexes():
            size = index.count("chars")
            for number in self.wrong_numbers(size):
                self.refused(BadPlace, {"number": number}, index, index.replace, number, None, None)
                self.refused(BadPlace, {"number": number}, index, index.replace, 0, number, None)
            self.refused(BadPlace, {"number": -1}, index, index.replace, 0, -1, None)
            if size > 0:
                self.refused(BadPlace, {"number": size - 1}, index, index.replace, size, size - 1, None)
            for value in odd_values():
                if not isinstance(value, (list, tuple)):
                    self.refused(InvalidChars, {"value": value}, index, index.replace, 0, size, value)
            for char in NO_CHARS:
                self.refused(InvalidChar, {"value": char}, index, index.replace, 0, 0, [97, char, None])

    def test_lists_and_names(self):
        index = Index(text=Text([97, 98]))
        new = [99]
        index.replace(chars=new, end=1, start=0)
        new.append(100)
        self.assertEqual(index.text().chars(), [99, 98])
        self.assertEqual(index.find(kind="bytes", number=1), (1, 1, 1))
        self.assertEqual([index.line_of(chars=2), index.line_start(line=0)], [0, 0])
        index.line_of(1)
        for call in [index.blocks, index.looked]:
            call().append(1)
            self.assertEqual(call(), [(0, 2)])
            self.assertIsNot(call(), call())
        index.text().chars().append(1)
        self.assertEqual(index.count(kind="chars"), 2)


if __name__ == "__main__":
    unittest.main()
