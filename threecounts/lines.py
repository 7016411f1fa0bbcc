"""The lines of a text, and places told by a row and a column."""

from threecounts.deltas import delta_of
from threecounts.errors import BadPlace, InvalidChars, InvalidFlag
from threecounts.places import chars_at, fitting, number_after
from threecounts.texts import check_kind, check_text, total_width
from threecounts.validation import KINDS, is_flag, is_integer, is_list, is_whole

LINE_FEED = 10
RETURN = 13
ENDINGS = ((10,), (13,), (13, 10))


class Lines:
    """The lines of a text."""

    def __init__(self, text):
        check_text(text)
        self.whole = text
        self.spans = line_spans(text.chars())

    def __len__(self):
        return len(self.spans)

    def __eq__(self, other):
        return isinstance(other, Lines) and self.whole == other.whole

    def span(self, row):
        """Return (start, end, stop) for a row: where its line begins and ends, and where the end of the line stops."""
        if not is_integer(row, 0, len(self.spans) - 1):
            raise BadPlace(row)
        return self.spans[row]

    def line(self, row):
        """Return the text of a line, without its end."""
        start, end, stop = self.span(row)
        return self.whole.part(start, end)

    def ending(self, row):
        """Return the list of the characters that end a line."""
        start, end, stop = self.span(row)
        return self.whole.part(end, stop).chars()

    def row_start(self, row, kind):
        """Return the number, in a kind, of the place before a line."""
        start, end, stop = self.span(row)
        check_kind(kind)
        return number_after(self.whole, start, kind)

    def position(self, number, kind, *, columns=None):
        """Return (row, column) for the place with a number in a kind."""
        check_kind(kind)
        if columns is None:
            columns = kind
        check_kind(columns)
        ahead = chars_at(self.whole, number, kind)
        row = last_row(self.spans, ahead)
        start, end, stop = self.spans[row]
        if ahead < end:
            end = ahead
        return (row, self.whole.part(start, end).count(columns))

    def column_in(self, row, column, kind, other):
        """Return a column of a line in another kind."""
        check_kind(kind)
        check_kind(other)
        line = self.line(row)
        return number_after(line, chars_at(line, column, kind), other)

    def number_at(self, row, column, kind, *, clamp=False):
        """Return the number, in a kind, of the place with a column of a line."""
        check_kind(kind)
        if not is_flag(clamp):
            raise InvalidFlag(clamp)
        if clamp and is_whole(row):
            row = clamped(row, len(self.spans) - 1)
        line = self.line(row)
        if clamp and is_whole(column):
            ahead = fitting(line, column, kind)[0]
        else:
            ahead = chars_at(line, column, kind)
        return self.row_start(row, kind) + number_after(line, ahead, kind)


def line_spans(chars):
    """Return the list of (start, end, stop) for all lines."""
    spans = []
    start = 0
    at = 0
    while at < len(chars):
        size = ending_size(chars, at)
        if size == 0:
            at = at + 1
        else:
            spans.append((start, at, at + size))
            at = at + size
            start = at
    spans.append((start, at, at))
    return spans


def ending_size(chars, at):
    """Return how many characters are the end of a line at an index, 0 if no end is there."""
    if chars[at] == RETURN and chars[at + 1:at + 2] == [LINE_FEED]:
        return 2
    if chars[at] == RETURN or chars[at] == LINE_FEED:
        return 1
    return 0


def last_row(spans, ahead):
    """Return the row of the last line that does not begin behind a place."""
    row = 0
    while row + 1 < len(spans) and spans[row + 1][0] <= ahead:
        row = row + 1
    return row


def clamped(number, most):
    """Return the integer from 0 to most that is nearest to a number."""
    if number < 0:
        return 0
    if number > most:
        return most
    return number


def split_lines(text):
    """Return the list of the texts of all lines."""
    lines = Lines(text)
    return [lines.line(row) for row in range(len(lines))]


def unifying(text, ending):
    """Return the delta that gives each line except the last one the same end."""
    check_text(text)
    if not is_list(ending) or tuple(ending) not in ENDINGS:
        raise InvalidChars(ending)
    chars = text.chars()
    rows = []
    for start, end, stop in line_spans(chars):
        rows.append(("keep", end - start))
        if end < stop:
            rows.extend(end_rows(chars[end:stop], ending))
    return delta_of(rows)


def end_rows(old, new):
    """Return the rows that turn one end of a line into another."""
    rows = []
    for char in (RETURN, LINE_FEED):
        if char in old and char in new:
            rows.append(("keep", 1))
        elif char in old:
            rows.append(("drop", 1))
        elif char in new:
            rows.append(("put", [char]))
    return rows


def text_width(text):
    """Return a dict from each kind to the greatest count of a line in this kind."""
    lines = split_lines(text)
    return {kind: greatest_count(lines, kind) for kind in KINDS}


def greatest_count(texts, kind):
    """Return the greatest count of several texts in a kind."""
    greatest = 0
    for text in texts:
        size = text.count(kind)
        if size > greatest:
            greatest = size
    return greatest
