"""Places in a text, and cursors that move in it."""

from threecounts.errors import BadPlace, InvalidInteger, MidChar, Mismatch
from threecounts.texts import char_width, check_kind, check_text, total_width
from threecounts.validation import is_integer, is_whole


class Place:
    """A place in a text, which never changes."""

    def __init__(self, text, chars):
        check_place(text, chars)
        self.whole = text
        self.ahead = chars

    def __repr__(self):
        return f"Place({self.whole!r}, {self.ahead})"

    def text(self):
        """Return the text."""
        return self.whole

    def count(self, kind):
        """Return the number of the place in a kind."""
        check_kind(kind)
        return number_after(self.whole, self.ahead, kind)

    @property
    def in_bytes(self):
        """The number of the place in bytes."""
        return number_after(self.whole, self.ahead, "bytes")

    @property
    def in_units(self):
        """The number of the place in units."""
        return number_after(self.whole, self.ahead, "units")

    @property
    def in_chars(self):
        """The number of the place in characters."""
        return self.ahead

    def before(self):
        """Return the character before the place, or None."""
        if self.ahead == 0:
            return None
        return self.whole[self.ahead - 1]

    def after(self):
        """Return the character after the place, or None."""
        if self.ahead == len(self.whole):
            return None
        return self.whole[self.ahead]

    def __add__(self, number):
        return Place(self.whole, stepped(self.whole, self.ahead, number, 1))

    def __sub__(self, other):
        if not isinstance(other, Place) or not self.whole == other.whole:
            raise Mismatch(other)
        return self.ahead - other.ahead

    def __eq__(self, other):
        return isinstance(other, Place) and self.whole == other.whole and self.ahead == other.ahead


def check_place(text, chars):
    """Raise InvalidText or BadPlace unless there is a place after so many characters of a text."""
    check_text(text)
    if not is_integer(chars, 0, len(text)):
        raise BadPlace(chars)


def number_after(text, ahead, kind):
    """Return the number, in a kind, of the place after some characters of a text."""
    return total_width(text.chars()[:ahead], kind)


def stepped(text, ahead, number, sign):
    """Return after how many characters the place stands that is a number of them on, or back if sign is -1."""
    if not is_whole(number) or not 0 <= ahead + sign * number <= len(text):
        raise BadPlace(number)
    return ahead + sign * number


def fitting(text, number, kind):
    """Return how many characters, from the first one on, have together at most a count, and their count."""
    ahead = 0
    start = 0
    for char in text:
        end = start + char_width(char, kind)
        if end > number:
            break
        ahead = ahead + 1
        start = end
    return (ahead, start)


def chars_at(text, number, kind):
    """Return after how many characters the place with a number in a kind stands."""
    if not is_integer(number, 0, text.count(kind)):
        raise BadPlace(number)
    ahead, start = fitting(text, number, kind)
    if start < number:
        raise MidChar(number, start, start + char_width(text[ahead], kind))
    return ahead


def place_at(text, number, kind):
    """Return the place with a number in a kind."""
    check_text(text)
    check_kind(kind)
    return Place(text, chars_at(text, number, kind))


def translated(text, number, kind, other):
    """Return the number, in another kind, of the place with a number in a kind."""
    check_text(text)
    check_kind(kind)
    check_kind(other)
    return number_after(text, chars_at(text, number, kind), other)


def is_place(text, number, kind):
    """Tell whether any value is the number of a place in a kind."""
    check_text(text)
    check_kind(kind)
    # True equals 1, but is no number.
    return is_whole(number) and number in place_numbers(text, kind)


def numbers(text, kind):
    """Return the list of the numbers of all places in a kind."""
    check_text(text)
    check_kind(kind)
    return place_numbers(text, kind)


def place_numbers(text, kind):
    """Return the list of the numbers of all places, the text and the kind known to be valid."""
    found = [0]
    for char in text:
        found.append(found[-1] + char_width(char, kind))
    return found


def nearest(text, number, kind, *, after=False):
    """Return the last place whose number is at most a number, or the first one whose number is at least it."""
    check_text(text)
    if not is_whole(number):
        raise InvalidInteger(number)
    check_kind(kind)
    ahead, start = fitting(text, number, kind)
    if after and start < number and ahead < len(text):
        return Place(text, ahead + 1)
    return Place(text, ahead)


class Cursor:
    """Tells a place in a text, and moves."""

    def __init__(self, text, chars=0):
        check_place(text, chars)
        self.whole = text
        self.ahead = chars

    def place(self):
        """Return the place where the cursor is."""
        return Place(self.whole, self.ahead)

    def count(self, kind):
        """Return the number of this place in a kind."""
        check_kind(kind)
        return number_after(self.whole, self.ahead, kind)

    def __setitem__(self, kind, number):
        check_kind(kind)
        self.ahead = chars_at(self.whole, number, kind)

    def __iadd__(self, number):
        self.ahead = stepped(self.whole, self.ahead, number, 1)
        return self

    def __isub__(self, number):
        self.ahead = stepped(self.whole, self.ahead, number, -1)
        return self

    def read(self, number, kind):
        """Return the text of the next bytes, units or characters, and move to its end."""
        start = self.count(kind)
        if not is_integer(number, 0, self.whole.count(kind) - start):
            raise BadPlace(number)
        end = chars_at(self.whole, start + number, kind)
        part = self.whole.part(self.ahead, end)
        self.ahead = end
        return part
