"""Characters, and texts that never change, counted in bytes, units and characters."""

from threecounts.errors import BadPlace, InvalidChar, InvalidChars, InvalidKind, InvalidText
from threecounts.validation import is_char, is_chars, is_integer, is_kind, is_list

# What the first byte of a character adds to its share of the character, by the number of bytes.
FIRST_BYTES = {1: 0, 2: 192, 3: 224, 4: 240}
NEXT_BYTE = 128
BYTE_SHARE = 64
FIRST_WIDE = 65536
HIGH_UNIT = 55296
LOW_UNIT = 56320
UNIT_SHARE = 1024


def width(char, kind):
    """Return the count of a character in a kind."""
    check_char(char)
    check_kind(kind)
    return char_width(char, kind)


def items(char, kind):
    """Return the list of the bytes or units of a character, or of the character itself."""
    check_char(char)
    check_kind(kind)
    return char_items(char, kind)


def check_char(char):
    """Raise InvalidChar unless char is a character."""
    if not is_char(char):
        raise InvalidChar(char)


def check_chars(chars):
    """Raise InvalidChars unless chars is a list, InvalidChar for its first item that is no character."""
    if not is_list(chars):
        raise InvalidChars(chars)
    for item in chars:
        check_char(item)


def check_kind(kind):
    """Raise InvalidKind unless kind is a kind."""
    if not is_kind(kind):
        raise InvalidKind(kind)


def check_text(text):
    """Raise InvalidText unless text is a Text."""
    if not isinstance(text, Text):
        raise InvalidText(text)


def char_width(char, kind):
    """Return the count of a character in a kind, both known to be valid."""
    if kind == "bytes":
        return byte_width(char)
    if kind == "units":
        return unit_width(char)
    return 1


def byte_width(char):
    """Return the number of bytes of a character."""
    if char < 128:
        return 1
    if char < 2048:
        return 2
    if char < FIRST_WIDE:
        return 3
    return 4


def unit_width(char):
    """Return the number of units of a character."""
    if char < FIRST_WIDE:
        return 1
    return 2


def char_items(char, kind):
    """Return the items of a character in a kind, both known to be valid."""
    if kind == "bytes":
        return byte_items(char)
    if kind == "units":
        return unit_items(char)
    return [char]


def byte_items(char):
    """Return the list of the bytes of a character."""
    size = byte_width(char)
    behind = []
    rest = char
    while len(behind) < size - 1:
        behind = [NEXT_BYTE + rest % BYTE_SHARE] + behind
        rest = rest // BYTE_SHARE
    return [FIRST_BYTES[size] + rest] + behind


def unit_items(char):
    """Return the list of the units of a character."""
    if char < FIRST_WIDE:
        return [char]
    rest = char - FIRST_WIDE
    return [HIGH_UNIT + rest // UNIT_SHARE, LOW_UNIT + rest % UNIT_SHARE]


def total_width(chars, kind):
    """Return the count of several characters in a kind, all known to be valid."""
    return sum([char_width(char, kind) for char in chars])


class Text:
    """A text, which never changes."""

    def __init__(self, chars):
        check_chars(chars)
        self.points = tuple(chars)

    def __repr__(self):
        return f"Text({list(self.points)})"

    def chars(self):
        """Return the list of the characters."""
        return list(self.points)

    def count(self, kind):
        """Return the count of the text in a kind."""
        check_kind(kind)
        return total_width(self.points, kind)

    @property
    def in_bytes(self):
        """The number of bytes."""
        return total_width(self.points, "bytes")

    @property
    def in_units(self):
        """The number of units."""
        return total_width(self.points, "units")

    @property
    def in_chars(self):
        """The number of characters."""
        return len(self.points)

    def __len__(self):
        return len(self.points)

    def __getitem__(self, index):
        if not is_integer(index, 0, len(self.points) - 1):
            raise BadPlace(index)
        return self.points[index]

    def __iter__(self):
        return iter(self.points)

    def part(self, start, end):
        """Return the text of the characters with the indices from start to end - 1."""
        if not is_integer(start, 0, len(self.points)):
            raise BadPlace(start)
        if not is_integer(end, start, len(self.points)):
            raise BadPlace(end)
        return Text(self.points[start:end])

    def __contains__(self, value):
        if is_char(value):
            return value in self.points
        if isinstance(value, Text):
            return stands_in(value.points, self.points)
        return is_chars(value) and stands_in(tuple(value), self.points)

    def __add__(self, other):
        return Text(self.points + points_of(other))

    def __radd__(self, other):
        return Text(points_of(other) + self.points)

    def __eq__(self, other):
        return isinstance(other, Text) and self.points == other.points

    def __lt__(self, other):
        if not isinstance(other, Text):
            return NotImplemented
        return self.points < other.points

    def __gt__(self, other):
        if not isinstance(other, Text):
            return NotImplemented
        return self.points > other.points


def points_of(other):
    """Return the tuple of the characters of a Text or a list of characters."""
    if isinstance(other, Text):
        return other.points
    if not is_chars(other):
        raise InvalidChars(other)
    return tuple(other)


def stands_in(part, whole):
    """Tell whether the items of one tuple stand in another one, one behind the other."""
    size = len(part)
    return any([whole[start:start + size] == part for start in range(len(whole) - size + 1)])


def joined(*texts):
    """Return the text of several texts, one behind the other."""
    for item in texts:
        check_text(item)
    return Text([char for text in texts for char in text.chars()])


def text_items(text, kind):
    """Return the list of the items of all characters of a text in a kind."""
    return [item for char in text.chars() for item in char_items(char, kind)]


def compare(one, other, kind):
    """Return -1, 0 or 1 as the items of one text in a kind are less, equal or greater."""
    check_text(one)
    check_text(other)
    check_kind(kind)
    left = text_items(one, kind)
    right = text_items(other, kind)
    if left < right:
        return -1
    if left > right:
        return 1
    return 0
