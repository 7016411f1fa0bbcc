"""Texts as lists of bytes and units, also read piece by piece."""

from threecounts.errors import BadSequence, Closed, InvalidBytes, InvalidInteger, InvalidUnits
from threecounts.texts import BYTE_SHARE, FIRST_BYTES, FIRST_WIDE, HIGH_UNIT, LOW_UNIT, NEXT_BYTE, UNIT_SHARE
from threecounts.texts import Text, char_width, check_chars, check_kind, check_text, text_items
from threecounts.validation import is_integer, is_list

LAST_BYTE = 255
LAST_UNIT = 65535
LAST_LOW_UNIT = 57343
NEXT_BOUNDS = (128, 191)
# Behind these first bytes a smaller second byte would tell a character that has fewer bytes,
# or a greater one would tell an integer that is no character.
SECOND_BOUNDS = {224: (160, 191), 237: (128, 159), 240: (144, 191), 244: (128, 143)}


def byte_list(text):
    """Return the list of the bytes of a text."""
    check_text(text)
    return text_items(text, "bytes")


def unit_list(text):
    """Return the list of the units of a text."""
    check_text(text)
    return text_items(text, "units")


def text_of_bytes(items):
    """Return the text of a good list of bytes."""
    return text_of(items, "bytes")


def text_of_units(items):
    """Return the text of a good list of units."""
    return text_of(items, "units")


def text_of(items, kind):
    """Return the text of a good list of a kind."""
    check_items(items, kind)
    return Text(good_chars(items, kind))


def check_items(items, kind):
    """Raise an exception unless items is a list whose items the kind can have."""
    if kind == "bytes":
        if not is_integers(items, LAST_BYTE):
            raise InvalidBytes(items)
    elif kind == "units":
        if not is_integers(items, LAST_UNIT):
            raise InvalidUnits(items)
    else:
        check_chars(items)


def is_integers(value, high):
    """Tell whether value is a list of integers from 0 to high."""
    return is_list(value) and all([is_integer(item, 0, high) for item in value])


def good_chars(items, kind):
    """Return the characters of a good list, or raise BadSequence."""
    chars, waiting, number = decoded([], items, kind)
    # If only items at the end are missing, number is the length of the list.
    if number < len(items) or len(waiting) > 0:
        raise BadSequence(number)
    return chars


def decoded(waiting, items, kind):
    """Read a list behind the items of a character that wait for more, up to the first bad item.

    Return a tuple: the characters that are complete, the items that wait then, and how many
    items of the list have been read.
    """
    chars = []
    group = list(waiting)
    for number, item in enumerate(items):
        if not may_follow(group, item, kind):
            return (chars, group, number)
        group.append(item)
        if len(group) == size_from(group[0], kind):
            chars.append(char_of(group, kind))
            group = []
    return (chars, group, len(items))


def may_follow(group, item, kind):
    """Tell whether a character begins with the items of a group and then this item."""
    if len(group) == 0:
        return size_from(item, kind) > 0
    low, high = bounds_behind(group, kind)
    return low <= item <= high


def size_from(first, kind):
    """Return how many items a character has that begins with this one, or 0 if none does."""
    if kind == "bytes":
        return byte_size_from(first)
    if kind == "units":
        return unit_size_from(first)
    return 1


def byte_size_from(first):
    """Return how many bytes a character has that begins with this one, or 0 if none does."""
    if first < 128:
        return 1
    # 192 and 193 would only tell characters that have one byte.
    if first < 194:
        return 0
    if first < 224:
        return 2
    if first < 240:
        return 3
    if first < 245:
        return 4
    return 0


def unit_size_from(first):
    """Return how many units a character has that begins with this one, or 0 if none does."""
    if first < HIGH_UNIT or first > LAST_LOW_UNIT:
        return 1
    if first < LOW_UNIT:
        return 2
    return 0


def bounds_behind(group, kind):
    """Return the least and the greatest item that may follow those of an unfinished character."""
    if kind == "units":
        return (LOW_UNIT, LAST_LOW_UNIT)
    if len(group) == 1:
        return SECOND_BOUNDS.get(group[0], NEXT_BOUNDS)
    return NEXT_BOUNDS


def char_of(group, kind):
    """Return the character that has these items."""
    if kind == "bytes":
        return char_of_bytes(group)
    if kind == "units":
        return char_of_units(group)
    return group[0]


def char_of_bytes(group):
    """Return the character that has these bytes."""
    char = group[0] - FIRST_BYTES[len(group)]
    for item in group[1:]:
        char = char * BYTE_SHARE + item - NEXT_BYTE
    return char


def char_of_units(group):
    """Return the character that has these units."""
    if len(group) == 1:
        return group[0]
    return FIRST_WIDE + (group[0] - HIGH_UNIT) * UNIT_SHARE + group[1] - LOW_UNIT


class Reader:
    """Reads a list of a kind piece by piece."""

    def __init__(self, kind):
        check_kind(kind)
        self.item_kind = kind
        self.taken = []
        self.ready = []
        self.waiting = []
        self.is_closed = False

    def feed(self, items):
        """Read more items, and return the list of the characters that they complete."""
        if self.is_closed:
            raise Closed()
        check_items(items, self.item_kind)
        chars, waiting, number = decoded(self.waiting, items, self.item_kind)
        if number < len(items):
            raise BadSequence(len(self.taken) + number)
        self.taken.extend(list(items))
        self.ready.extend(chars)
        self.waiting = waiting
        return chars

    def pending(self):
        """Return the list of the items that wait for more."""
        return list(self.waiting)

    @property
    def missing(self):
        """How many items are missing for the character whose items wait."""
        if len(self.waiting) == 0:
            return 0
        return size_from(self.waiting[0], self.item_kind) - len(self.waiting)

    def text(self):
        """Return the text of all complete characters."""
        return Text(self.ready)

    def __len__(self):
        return len(self.taken)

    def close(self):
        """Close the reader, and return the text."""
        if self.is_closed:
            raise Closed()
        if len(self.waiting) > 0:
            raise BadSequence(len(self.taken))
        self.is_closed = True
        return self.text()


def beginning(items, kind):
    """Return the longest beginning of a list that is a good list: its text, and its number of items."""
    check_kind(kind)
    check_items(items, kind)
    chars, waiting, number = decoded([], items, kind)
    return (Text(chars), number - len(waiting))


def span_at(items, index, kind):
    """Return (start, end, char) for the character of a good list to which the item at an index belongs."""
    check_kind(kind)
    check_items(items, kind)
    chars = good_chars(items, kind)
    if not is_integer(index, 0, len(items) - 1):
        raise InvalidInteger(index)
    return span_in(chars, index, kind)


def span_in(chars, index, kind):
    """Return (start, end, char) for the item at an index among the items of some characters."""
    at = 0
    start = 0
    end = char_width(chars[0], kind)
    while end <= index:
        at = at + 1
        start = end
        end = start + char_width(chars[at], kind)
    return (start, end, chars[at])
