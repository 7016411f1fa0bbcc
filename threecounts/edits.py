"""Deltas and edits counted in bytes, units or characters."""

from threecounts.deltas import MOST_CHARS, check_before, check_delta, check_rows, delta_of
from threecounts.errors import BadPlace, BadRow, InvalidEdit, InvalidEdits, MidChar, Overlap
from threecounts.places import chars_at, place_numbers
from threecounts.texts import check_kind, check_text
from threecounts.validation import is_chars, is_list, is_whole

MOST_COUNT = 2400
MOST_EDITS = 60


def counted(delta, text, kind):
    """Return the rows of a delta for a text, counted in a kind."""
    places = counted_places(delta, text, kind)
    rows = []
    at = 0
    for word, what in delta.rows():
        if word == "put":
            rows.append((word, what))
        else:
            rows.append((word, places[at + what] - places[at]))
            at = at + what
    return rows


def counted_places(delta, text, kind):
    """Return the numbers of all places of a text in a kind, if a delta is for this text."""
    check_delta(delta)
    check_before(delta, text)
    check_kind(kind)
    return place_numbers(text, kind)


def delta_from(rows, text, kind):
    """Return the delta for a text whose rows are counted in a kind."""
    check_rows(rows, MOST_COUNT)
    check_text(text)
    check_kind(kind)
    places = {number: ahead for ahead, number in enumerate(place_numbers(text, kind))}
    found = []
    ahead = 0
    number = 0
    for index, (word, what) in enumerate(rows):
        if word == "put":
            found.append((word, what))
        else:
            number = number + what
            if number not in places:
                refuse_row(index, text, number, kind)
            end = places[number]
            found.append((word, end - ahead))
            ahead = end
    found.append(("keep", len(text) - ahead))
    return delta_of(found)


def refuse_row(index, text, number, kind):
    """Raise BadRow for a row that ends at a number that is no place."""
    try:
        chars_at(text, number, kind)
    except (BadPlace, MidChar) as error:
        raise BadRow(index) from error


def together(edits, text, kind):
    """Return the delta of edits that are all counted against the same text."""
    check_edits(edits, text, kind)
    spans = []
    for index, item in enumerate(edits):
        span = edit_span(item, text, kind)
        if any([may_not_stand(span, other) for other in spans]):
            raise Overlap(index)
        spans.append(span)
    return delta_of(rows_together(spans, len(text)))


def in_turn(edits, text, kind):
    """Return the delta of edits of which each is counted against the text that those before it leave."""
    steps = steps_in_turn(edits, text, kind)
    whole = delta_of([("keep", len(text))])
    for now, span in steps:
        whole = whole + delta_of(rows_together([span], len(now)))
    return whole


def check_edits(edits, text, kind):
    """Raise an exception unless edits is a list, text a Text and kind a kind."""
    if not is_list(edits) or len(edits) > MOST_EDITS:
        raise InvalidEdits(edits)
    check_text(text)
    check_kind(kind)


def edit_span(item, text, kind):
    """Return (start, end, chars) for an edit, the two places told in characters."""
    if not is_edit(item):
        raise InvalidEdit(item)
    first, last, chars = item
    return (chars_at(text, first, kind), chars_at(text, last, kind), chars)


def is_edit(item):
    """Tell whether item is a tuple that may be an edit of some text."""
    if not isinstance(item, tuple) or len(item) != 3:
        return False
    first, last, chars = item
    if not is_whole(first) or not is_whole(last) or not 0 <= first <= last:
        return False
    return is_chars(chars) and len(chars) <= MOST_CHARS


def may_not_stand(one, other):
    """Tell whether two edits, told in characters, drop the same character or put one where the other drops."""
    return drop_the_same(one, other) or puts_within(one, other) or puts_within(other, one)


def drop_the_same(one, other):
    """Tell whether two edits drop the same character."""
    start, end, chars = one
    other_start, other_end, other_chars = other
    if start == end or other_start == other_end:
        return False
    return start < other_end and other_start < end


def puts_within(one, other):
    """Tell whether an edit puts characters strictly between the two places of another one."""
    start, end, chars = one
    other_start, other_end, other_chars = other
    return len(chars) > 0 and other_start < start < other_end


def rows_together(spans, size):
    """Return the rows of edits, told in characters, that may stand beside one another."""
    puts = {}
    dropped = {}
    for start, end, chars in spans:
        puts[start] = puts.get(start, []) + list(chars)
        for at in range(start, end):
            dropped[at] = True
    rows = []
    for at in range(size):
        rows.append(("put", puts.get(at, [])))
        rows.append(("drop" if at in dropped else "keep", 1))
    rows.append(("put", puts.get(size, [])))
    return rows


def steps_in_turn(edits, text, kind):
    """Return for each edit a tuple: the text that the edits before it leave, and its span there."""
    check_edits(edits, text, kind)
    steps = []
    now = text
    for item in edits:
        span = edit_span(item, now, kind)
        steps.append((now, span))
        start, end, chars = span
        now = now.part(0, start) + chars + now.part(end, len(now))
    return steps


def edits_of(delta, text, kind):
    """Return the list of as few edits as possible that together are a delta."""
    places = counted_places(delta, text, kind)
    edits = []
    at = 0
    for kept, put, dropped in delta.segments:
        start = at + kept
        at = start + dropped
        if len(put) > 0 or dropped > 0:
            edits.append((places[start], places[at], list(put)))
    return edits


def recounted(edits, text, kind, other):
    """Return edits in another kind that together are the same delta."""
    return edits_of(together(edits, text, kind), text, other)


def recounted_in_turn(edits, text, kind, other):
    """Return the same edits, one for one, counted in another kind."""
    steps = steps_in_turn(edits, text, kind)
    check_kind(other)
    found = []
    for now, (start, end, chars) in steps:
        places = place_numbers(now, other)
        found.append((places[start], places[end], list(chars)))
    return found
