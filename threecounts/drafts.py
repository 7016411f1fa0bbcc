"""Drafts: texts that are changed, and whose changes can be taken back."""

from threecounts.deltas import check_delta, delta_of, text_after
from threecounts.errors import BadPlace, Mismatch, NothingToUndo
from threecounts.places import chars_at
from threecounts.texts import check_char, check_chars, check_kind, check_text, points_of
from threecounts.validation import is_integer


class Draft:
    """A text that is changed."""

    def __init__(self, text):
        check_text(text)
        self.first = text
        self.whole = text
        self.total = delta_of([("keep", len(text))])
        self.steps = []
        # For each step the text and the delta of all steps as they were before it.
        self.earlier = []

    def text(self):
        """Return the text now."""
        return self.whole

    def begun(self):
        """Return the text at first."""
        return self.first

    @property
    def in_bytes(self):
        """The number of bytes now."""
        return self.whole.in_bytes

    @property
    def in_units(self):
        """The number of units now."""
        return self.whole.in_units

    @property
    def in_chars(self):
        """The number of characters now."""
        return self.whole.in_chars

    def __len__(self):
        return len(self.whole)

    def __getitem__(self, index):
        return self.whole[index]

    def __iter__(self):
        return iter(self.whole.points)

    def apply(self, delta):
        """Change the text by a delta, and return the new text."""
        check_delta(delta)
        if delta.length_before != len(self.whole):
            raise Mismatch(self.whole)
        return self.step(delta)

    def __setitem__(self, index, char):
        if not is_integer(index, 0, len(self.whole) - 1):
            raise BadPlace(index)
        check_char(char)
        self.put_between(index, index + 1, [char])

    def __iadd__(self, other):
        chars = points_of(other)
        self.put_between(len(self.whole), len(self.whole), chars)
        return self

    def insert(self, number, chars, kind):
        """Put characters at the place with a number in a kind, and return the text."""
        check_kind(kind)
        ahead = chars_at(self.whole, number, kind)
        check_chars(chars)
        return self.put_between(ahead, ahead, chars)

    def drop(self, start, end, kind):
        """Drop the characters between two places, and return the text."""
        first, last = places_between(self.whole, start, end, kind)
        return self.put_between(first, last, [])

    def replace(self, start, end, chars, kind):
        """Put characters in the place of those between two places, and return the text."""
        first, last = places_between(self.whole, start, end, kind)
        check_chars(chars)
        return self.put_between(first, last, chars)

    def put_between(self, first, last, chars):
        """Put characters in the place of those between two places, told in characters, and return the text."""
        behind = len(self.whole) - last
        return self.step(delta_of([("keep", first), ("put", chars), ("drop", last - first), ("keep", behind)]))

    def step(self, delta):
        """Change the text by a delta that is for it, remember this change, and return the text."""
        self.earlier.append((self.whole, self.total))
        self.steps.append(delta)
        self.total = self.total + delta
        self.whole = text_after(delta, self.whole)
        return self.whole

    def changes(self):
        """Return the list of the deltas of all changes that have not been taken back."""
        return list(self.steps)

    def made(self):
        """Return the delta from the text at first to the one now."""
        return self.total

    def take_back(self):
        """Take the last change back, and return the text."""
        if len(self.steps) == 0:
            raise NothingToUndo()
        self.steps.pop()
        self.whole, self.total = self.earlier.pop()
        return self.whole


def places_between(text, start, end, kind):
    """Return after how many characters two places stand, the second one not before the first."""
    check_kind(kind)
    first = chars_at(text, start, kind)
    last = chars_at(text, end, kind)
    if last < first:
        raise BadPlace(end)
    return (first, last)
