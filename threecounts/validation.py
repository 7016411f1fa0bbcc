"""Tests of single values, and the numbers and words that a string holds."""

KINDS = ("bytes", "units", "chars")
LAST_CHAR = 1114111
FIRST_SURROGATE = 55296
LAST_SURROGATE = 57343
LONGEST_NAME = 8
MOST_DIGITS = 30


def is_integer(value, low, high):
    """Tell whether value is an integer from low to high."""
    return is_whole(value) and low <= value <= high


def is_whole(value):
    """Tell whether value is an integer of any size."""
    # Python counts True and False among the integers, the document does not.
    return isinstance(value, int) and not isinstance(value, bool)


def is_flag(value):
    """Tell whether value is True or False, and not only equal to one of them."""
    return value is True or value is False


def is_char(value):
    """Tell whether value is a character."""
    if not is_integer(value, 0, LAST_CHAR):
        return False
    return not FIRST_SURROGATE <= value <= LAST_SURROGATE


def is_list(value):
    """Tell whether value is a list or a tuple."""
    return isinstance(value, (list, tuple))


def is_chars(value):
    """Tell whether value is a list of characters."""
    return is_list(value) and all([is_char(item) for item in value])


def is_kind(value):
    """Tell whether value is one of the three kinds of counts."""
    return isinstance(value, str) and value in KINDS


def is_name(value):
    """Tell whether value is a name: one to eight letters from a to z."""
    if not isinstance(value, str) or not 1 <= len(value) <= LONGEST_NAME:
        return False
    return all(["a" <= letter <= "z" for letter in value])


def parse_integer(text, *, low=0, high=999999):
    """Return the integer from low to high that a string represents, or None."""
    if not is_numeral(text):
        return None
    number = int(text)
    if not low <= number <= high:
        return None
    return number


def is_numeral(text):
    """Tell whether text is a string of at most thirty digits without leading zeros."""
    if not isinstance(text, str) or not 1 <= len(text) <= MOST_DIGITS:
        return False
    if text[0] == "0" and len(text) > 1:
        return False
    # str.isdigit would also take digits of other scripts.
    return all(["0" <= digit <= "9" for digit in text])


def split_words(text, *, separator=" "):
    """Return the words of a string that has exactly one separator between any two, or None."""
    if not isinstance(text, str) or "\n" in text:
        return None
    words = text.split(separator)
    if "" in words:
        return None
    return words
