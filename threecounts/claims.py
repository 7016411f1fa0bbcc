"""Rows of counts without a text: whether some text has them, and what shows that none does."""

from threecounts.errors import InvalidClaim, InvalidClaims, InvalidCounts, InvalidInteger
from threecounts.places import place_numbers
from threecounts.texts import Text, check_kind, check_text
from threecounts.validation import KINDS, is_integer, is_list

MOST_COUNT = 2400
MOST_GIVEN = 480
MOST_KNOWN = 160
MOST_CLAIMS = 12
START = (0, 0, 0)
# One character for each number of bytes.
ONE_BYTE = 97
TWO_BYTES = 233
THREE_BYTES = 8364
FOUR_BYTES = 128512


def is_possible(counts):
    """Tell whether any value is a tuple of the counts of some text."""
    if not isinstance(counts, tuple) or len(counts) != 3:
        return False
    return all([is_integer(number, 0, MOST_COUNT) for number in counts]) and has_text(*counts)


def has_text(in_bytes, in_units, in_chars):
    """Tell whether a text has these counts, all of them integers."""
    if in_chars > in_units:
        return False
    return 3 * in_units - 2 * in_chars <= in_bytes <= in_units + 2 * in_chars


def range_of(kind, *, in_bytes=None, in_units=None, in_chars=None):
    """Return the least and the greatest count in a kind of the texts with the other two counts, or None."""
    check_kind(kind)
    given = (in_bytes, in_units, in_chars)
    for own, number in zip(KINDS, given):
        if not may_be_given(number, own == kind):
            raise InvalidInteger(number)
    least, greatest = bounds_of(given)
    if least > greatest:
        return None
    return (least, greatest)


def may_be_given(number, is_asked):
    """Tell whether a number may be given for a kind, which must be None for the kind that is asked for."""
    if is_asked:
        return number is None
    return is_integer(number, 0, MOST_GIVEN)


def bounds_of(counts):
    """Return the least and the greatest number for the None among three counts; the least is greater if none fits."""
    in_bytes, in_units, in_chars = counts
    if in_bytes is None:
        if in_chars > in_units:
            return (1, 0)
        return (3 * in_units - 2 * in_chars, in_units + 2 * in_chars)
    if in_units is None:
        return (max(int(in_chars), in_bytes - 2 * in_chars), (in_bytes + 2 * in_chars) // 3)
    return (max(int(half(3 * in_units - in_bytes)), half(in_bytes - in_units)), in_units)


def half(number):
    """Return the least integer that is at least half of a number."""
    return (number + 1) // 2


def text_with(counts):
    """Return a text with these counts."""
    if not is_possible(counts):
        raise InvalidCounts(counts)
    return Text(chars_with(counts))


def chars_with(counts):
    """Return the list of the characters of a text with counts that are possible."""
    in_bytes, in_units, in_chars = counts
    wide = in_units - in_chars
    # What the bytes are more than the least number that they could be.
    rest = in_bytes - 3 * in_units + 2 * in_chars
    three = rest // 2
    two = rest - 2 * three
    one = in_chars - wide - three - two
    return [FOUR_BYTES] * wide + [THREE_BYTES] * three + [TWO_BYTES] * two + [ONE_BYTE] * one


def check_claims(claims):
    """Raise InvalidClaims or InvalidClaim unless claims is a list of rows."""
    if not is_list(claims) or len(claims) > MOST_CLAIMS:
        raise InvalidClaims(claims)
    for item in claims:
        if not is_claim(item):
            raise InvalidClaim(item)


def is_claim(item):
    """Tell whether item is a row of three counts, of which at most one is not known."""
    if not isinstance(item, tuple) or len(item) != 3:
        return False
    known = [number for number in item if number is not None]
    return len(known) >= 2 and all([is_integer(number, 0, MOST_KNOWN) for number in known])


def bearing(claims):
    """Return a text that bears the claims and ends at the place of the last row, or None."""
    layers = layers_of(claims)
    if has_empty(layers):
        return None
    chars = []
    before = START
    for counts in way_through(layers):
        chars.extend(chars_with(difference(before, counts)))
        before = counts
    return Text(chars)


def way_through(layers):
    """Return a list with one tuple of each layer, each of them possible behind the one before it."""
    way = []
    for layer in layers[::-1]:
        fit = [counts for counts in layer if len(way) == 0 or may_follow(way[0], counts)]
        way = [fit[0]] + way
    return way


def bears(text, claims):
    """Tell whether a text bears claims."""
    check_text(text)
    check_claims(claims)
    places = list(zip(place_numbers(text, "bytes"), place_numbers(text, "units"), place_numbers(text, "chars")))
    at = 0
    for row in claims:
        # The first place that will do leaves the most places for the rows behind.
        while at < len(places) and not agrees(places[at], row):
            at = at + 1
        if at == len(places):
            return False
    return True


def agrees(counts, row):
    """Tell whether counts have the known numbers of a row."""
    return all([known is None or known == number for known, number in zip(row, counts)])


def layers_of(claims):
    """Return the layers with as few tuples as possible, each one ascending."""
    check_claims(claims)
    layers = []
    before = [START]
    for row in claims:
        before = layer_behind(before, row)
        layers.append(before)
    return layers


def layer_behind(before, row):
    """Return the ascending list of all tuples with the known numbers of a row that may follow some of a layer."""
    return [counts for counts in tuples_of(row) if follows_one(counts, before)]


def tuples_of(row):
    """Return the ascending list of all possible tuples with the known numbers of a row."""
    if None not in row:
        return [row] if has_text(*row) else []
    at = row.index(None)
    least, greatest = bounds_of(row)
    return [row[:at] + (number,) + row[at + 1:] for number in range(least, greatest + 1)]


def follows_one(counts, before):
    """Tell whether counts may follow some tuple of a list."""
    for earlier in before:
        if may_follow(counts, earlier):
            return True
    return False


def may_follow(counts, earlier):
    """Tell whether a text with the earlier counts can go on to these counts."""
    return has_text(counts[0] - earlier[0], counts[1] - earlier[1], counts[2] - earlier[2])


def difference(earlier, counts):
    """Return how much greater each of some counts is than earlier ones."""
    return tuple([number - less for number, less in zip(counts, earlier)])


def layers_hold(claims, layers):
    """Tell whether any value are layers that hold for claims."""
    check_claims(claims)
    if not are_layers(layers, len(claims)):
        return False
    before = [START]
    for row, layer in zip(claims, layers):
        if not all([counts in layer for counts in layer_behind(before, row)]):
            return False
        before = layer
    return True


def are_layers(value, number):
    """Tell whether any value is a list of so many lists of possible tuples."""
    if not is_list(value) or len(value) != number:
        return False
    return all([is_list(layer) and all([is_possible(item) for item in layer]) for layer in value])


def has_empty(layers):
    """Tell whether one of some layers is empty."""
    return any([len(layer) == 0 for layer in layers])


def shows_conflict(claims, layers):
    """Tell whether any value are layers that hold for claims, and one of them is empty."""
    return layers_hold(claims, layers) and has_empty(layers)


def first_conflict(claims):
    """Return the least number of rows from the beginning that no text bears, or None."""
    for at, layer in enumerate(layers_of(claims)):
        if len(layer) == 0:
            return at + 1
    return None


def possible_at(claims, index):
    """Return the ascending list of all tuples that the place of a row has in some text that bears all claims."""
    layers = layers_of(claims)
    if not is_integer(index, 0, len(claims) - 1):
        raise InvalidInteger(index)
    found = layers[-1]
    for layer in layers[index:-1][::-1]:
        found = [counts for counts in layer if leads_to_one(counts, found)]
    return found


def leads_to_one(earlier, behind):
    """Tell whether some tuple of a list may follow counts."""
    for counts in behind:
        if may_follow(counts, earlier):
            return True
    return False
