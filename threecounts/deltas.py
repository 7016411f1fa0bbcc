"""Deltas: changes of texts, which can be composed, inverted and moved over one another."""

from threecounts.errors import InvalidDelta, InvalidFlag, InvalidRow, InvalidRows, Mismatch, NoDelta
from threecounts.texts import Text, check_text
from threecounts.validation import is_chars, is_flag, is_integer, is_list

MOST_ROWS = 1300
MOST_CHARS = 600


class Segments:
    """The normal form of rows that are known to be valid.

    It is a tuple of segments (kept, put, dropped): so many characters are kept, then these are
    put, then so many are dropped. Only the first segment may keep none, and only the last one
    may neither put nor drop.
    """

    def __init__(self, rows):
        self.segments = normal_form(rows)


class Delta:
    """A change of the texts of one length; it never changes itself."""

    def __init__(self, rows):
        # What the package itself makes is not held to the bounds of rows that are passed.
        if isinstance(rows, Segments):
            self.segments = rows.segments
        else:
            check_rows(rows, MOST_CHARS)
            self.segments = normal_form(rows)

    def __repr__(self):
        return f"Delta({self.rows()})"

    def rows(self):
        """Return the list of the rows in normal form."""
        found = []
        for kept, put, dropped in self.segments:
            if kept > 0:
                found.append(("keep", kept))
            if len(put) > 0:
                found.append(("put", list(put)))
            if dropped > 0:
                found.append(("drop", dropped))
        return found

    @property
    def length_before(self):
        """The number of characters that a text must have."""
        return size_before(self.segments)

    @property
    def length_after(self):
        """The number of characters that a text has after the change."""
        return size_after(self.segments)

    @property
    def is_plain(self):
        """Whether the delta neither puts nor drops."""
        return all([len(put) == 0 and dropped == 0 for kept, put, dropped in self.segments])

    def __call__(self, text):
        check_before(self, text)
        return text_after(self, text)

    def __eq__(self, other):
        return isinstance(other, Delta) and self.segments == other.segments

    def __add__(self, other):
        check_delta(other)
        if size_before(other.segments) != size_after(self.segments):
            raise Mismatch(other)
        return delta_of(composed(self.segments, other.segments))

    def inverted(self, text):
        """Return the delta that leads from the text after the change back to a text."""
        check_before(self, text)
        return delta_of(inverse(self.segments, text.chars()))

    def over(self, other, *, first):
        """Return the delta that does the same to the text after another delta for the same texts."""
        check_delta(other)
        if other.length_before != self.length_before:
            raise Mismatch(other)
        if not is_flag(first):
            raise InvalidFlag(first)
        return delta_of(moved(self.segments, other.segments, first))


def delta_of(rows):
    """Return the delta of rows that are known to be valid, of any number and length."""
    return Delta(Segments(rows))


def text_after(delta, text):
    """Return the text after a change, if it is known that the delta is for this text."""
    return Text(carried_out(delta.segments, text.chars()))


def check_delta(delta):
    """Raise InvalidDelta unless delta is a Delta."""
    if not isinstance(delta, Delta):
        raise InvalidDelta(delta)


def check_before(delta, text):
    """Raise InvalidText or Mismatch unless text is a text that a delta is for."""
    check_text(text)
    if len(text) != delta.length_before:
        raise Mismatch(text)


def check_rows(rows, most):
    """Raise InvalidRows or InvalidRow unless rows is a list of rows that keep and drop at most so many."""
    if not is_list(rows) or len(rows) > MOST_ROWS:
        raise InvalidRows(rows)
    for item in rows:
        if not is_row(item, most):
            raise InvalidRow(item)


def is_row(item, most):
    """Tell whether item is a row of a delta that keeps or drops at most so many."""
    if not isinstance(item, tuple) or len(item) != 2:
        return False
    word, what = item
    if word == "put":
        return is_chars(what) and len(what) <= MOST_CHARS
    return word in ("keep", "drop") and is_integer(what, 0, most)


def normal_form(rows):
    """Return the tuple of the segments of a delta."""
    found = []
    kept = 0
    put = []
    dropped = 0
    for word, what in rows:
        if word == "put":
            # Also behind dropped characters: there it counts as put ahead of them.
            put.extend(list(what))
        elif word == "drop":
            dropped = dropped + what
        elif what > 0:
            if len(put) > 0 or dropped > 0:
                found.append((kept, tuple(put), dropped))
                kept = 0
                put = []
                dropped = 0
            kept = kept + what
    found.append((kept, tuple(put), dropped))
    return tuple(found)


def size_before(segments):
    """Return the number of characters that a text must have."""
    return sum([kept + dropped for kept, put, dropped in segments])


def size_after(segments):
    """Return the number of characters that a text has then."""
    return sum([kept + len(put) for kept, put, dropped in segments])


def carried_out(segments, items):
    """Return the list of the items that a list has after the change."""
    found = []
    at = 0
    for kept, put, dropped in segments:
        found.extend(items[at:at + kept])
        found.extend(put)
        at = at + kept + dropped
    return found


def composed(segments, others):
    """Return the rows of what some segments do and then others do."""
    size = size_before(segments)
    # Negative numbers stand for the characters of the text, so that they differ from those that are put.
    items = carried_out(others, carried_out(segments, list(range(-size, 0))))
    rows = []
    at = 0
    for item in items:
        if item >= 0:
            rows.append(("put", [item]))
        else:
            rows.append(("drop", size + item - at))
            rows.append(("keep", 1))
            at = size + item + 1
    rows.append(("drop", size - at))
    return rows


def inverse(segments, chars):
    """Return the rows that lead back to the characters of the text before."""
    rows = []
    at = 0
    for kept, put, dropped in segments:
        rows.append(("keep", kept))
        rows.append(("drop", len(put)))
        at = at + kept
        rows.append(("put", chars[at:at + dropped]))
        at = at + dropped
    return rows


def moved(segments, others, first):
    """Return the rows that do what some segments do to the text after others."""
    cuts = cuts_in(segments, others)
    puts = puts_in(segments)
    stays = stays_between(cuts, segments)
    other_puts = puts_in(others)
    other_stays = stays_between(cuts, others)
    rows = []
    for at, gap in enumerate(cuts):
        put = ("put", puts.get(gap, ()))
        keep = ("keep", len(other_puts.get(gap, ())))
        if first:
            rows.extend([put, keep])
        else:
            rows.extend([keep, put])
        if at < len(stays) and other_stays[at]:
            rows.append(("keep" if stays[at] else "drop", cuts[at + 1] - gap))
    return rows


def cuts_in(segments, others):
    """Return the ascending gaps at which the text, or a run of kept or dropped characters, begins or ends."""
    marked = {0: True}
    for rows in (segments, others):
        at = 0
        for kept, put, dropped in rows:
            marked[at + kept] = True
            at = at + kept + dropped
            marked[at] = True
    return [gap for gap in range(size_before(segments) + 1) if gap in marked]


def stays_between(cuts, segments):
    """Return the list that tells of the characters between any two neighboring cuts whether they are kept."""
    found = []
    end = 0
    for kept, put, dropped in segments:
        for size, stays in ((kept, True), (dropped, False)):
            end = end + size
            while len(found) + 1 < len(cuts) and cuts[len(found) + 1] <= end:
                found.append(stays)
    return found


def puts_in(segments):
    """Return a dict from each gap into which something is put to what is put there."""
    found = {}
    at = 0
    for kept, put, dropped in segments:
        if len(put) > 0:
            found[at + kept] = put
        at = at + kept + dropped
    return found


def between(one, other):
    """Return the delta from one text to another that keeps what they have in common at both ends."""
    check_text(one)
    check_text(other)
    left = one.chars()
    right = other.chars()
    start = common_size(left, right)
    left = left[start:]
    right = right[start:]
    end = common_size(left[::-1], right[::-1])
    put = right[:len(right) - end]
    return delta_of([("keep", start), ("put", put), ("drop", len(left) - end), ("keep", end)])


def common_size(left, right):
    """Return how many items at the beginning of two lists are equal."""
    size = 0
    for one, other in zip(left, right):
        if one != other:
            break
        size = size + 1
    return size


def merged(*deltas):
    """Return the delta of several deltas for the same texts that are made at the same time."""
    for item in deltas:
        check_delta(item)
    for item in deltas:
        if item.length_before != deltas[0].length_before:
            raise Mismatch(item)
    if len(deltas) == 0:
        raise NoDelta()
    whole = deltas[0]
    for item in deltas[1:]:
        whole = whole + item.over(whole, first=False)
    return whole
