"""What several test files need: a test case that looks into exceptions, values of all sorts, sample texts."""

import itertools
import unittest

from threecounts.codecs import Reader
from threecounts.deltas import Delta
from threecounts.places import Place
from threecounts.texts import Text

KINDS = ["bytes", "units", "chars"]

# Both sides of every bound at which the width of a character changes or the characters end.
EDGE_CHARS = [0, 1, 10, 13, 65, 127, 128, 233, 2047, 2048, 8364, 55295, 57344, 65535, 65536, 128512, 1114110, 1114111]
NO_CHARS = [-1, 55296, 56319, 56320, 57343, 1114112, 10 ** 30, -10 ** 30, True, False, None, "a", [65], (65,), {}]
NO_KINDS = ["", "byte", "Bytes", "bytes ", " chars", "unit", "char", "bytesunits", None, True, 0, ["bytes"], ("chars",)]


def odd_values():
    """New objects of all sorts that a parameter may get."""
    return [None, True, False, 0, 1, -1, 10 ** 30, -10 ** 30, "", "a", "bytes", [], (), {}, [1], (1,), {"a": 1},
            {1: [2]}, [[1]], [None], [True], ["a"], Text([]), Text([1]), [Text([1])], Reader("bytes"),
            Place(Text([1]), 1), Delta([]), Delta([("keep", 1)])]


def no_texts():
    """New objects of all sorts that are no texts."""
    return [value for value in odd_values() if not isinstance(value, Text)]


def no_integers():
    return [value for value in odd_values() if not is_plain_integer(value)]


def is_plain_integer(value):
    return isinstance(value, int) and not isinstance(value, bool)


def utf8(chars):
    return list("".join([chr(char) for char in chars]).encode("utf-8"))


def utf16(chars):
    data = "".join([chr(char) for char in chars]).encode("utf-16-be")
    return [data[at] * 256 + data[at + 1] for at in range(0, len(data), 2)]


def counts_after(chars):
    """For each kind the list of the counts of the first 0, 1, 2 .. characters, by Python's own encodings."""
    sizes = {"bytes": [len(utf8([char])) for char in chars], "units": [len(utf16([char])) for char in chars],
             "chars": [1] * len(chars)}
    return {kind: list(itertools.accumulate(sizes[kind], initial=0)) for kind in sizes}


def random_chars(source, most):
    """A list of at most so many characters of all widths, some of them ends of lines."""
    return [source.choice([97, 98, 10, 13, 233, 8364, 128512]) for _ in range(source.randint(0, most))]


class ErrorCase(unittest.TestCase):
    """A test case that checks the class of an exception and each of its fields."""

    def raised(self, kind, fields, call, *args, **more):
        """Check that a call raises exactly this class, with fields that are these very objects."""
        with self.assertRaises(kind) as caught:
            call(*args, **more)
        error = caught.exception
        self.assertIs(type(error), kind)
        self.assertEqual(list(vars(error)), list(fields))
        for name, wanted in fields.items():
            found = getattr(error, name)
            if is_plain_integer(wanted):
                self.assertIs(type(found), int)
                self.assertEqual(found, wanted)
            else:
                self.assertIs(found, wanted)
        return error
