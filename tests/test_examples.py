"""The examples of the document, word for word."""

import doctest
import pathlib
import unittest

from threecounts import codecs, errors, texts, validation

STAGE_1 = """
    >>> [is_char(1114111), is_char(55296), is_chars([104, 128512]), is_kind("char"), is_name("editor")]
    [True, False, True, False, True]
    >>> [parse_integer("07"), parse_integer("39", high=38), split_words("a b+c", separator="+"), split_words("a  b")]
    [None, None, ['a b', 'c'], None]
"""

STAGE_2 = """
    >>> [width(8364, "bytes"), items(8364, "bytes"), items(128512, "units"), items(128512, "bytes")]
    [3, [226, 130, 172], [55357, 56832], [240, 159, 152, 128]]
    >>> text = Text([104, 8364, 128512])
    >>> [text.in_bytes, text.count("units"), len(text), text[1], text.part(1, 3).chars()]
    [8, 4, 3, 8364, [8364, 128512]]
    >>> [128512 in text, [104, 128512] in text, (text + [33]).chars(), ([33] + text)[0], joined() == Text([])]
    [True, False, [104, 8364, 128512, 33], 33, True]
    >>> one, other = Text([65535]), Text([65536])
    >>> [one < other, compare(one, other, "bytes"), compare(one, other, "units")]
    [True, -1, 1]
"""

STAGE_3 = """
    >>> [byte_list(Text([233, 128512])), text_of_units([55357, 56832]).chars()]
    [[195, 169, 240, 159, 152, 128], [128512]]
    >>> text_of_bytes([104, 224, 128, 128])
    raises BadSequence(2)
    >>> text_of_units([104, 55357])
    raises BadSequence(2)
    >>> reader = Reader("bytes")
    >>> [reader.feed([104, 240, 159]), reader.pending(), reader.missing, reader.feed([152, 128]), reader.close().chars()]
    [[104], [240, 159], 2, [128512], [104, 128512]]
    >>> [beginning([195, 169, 226, 130, 65], "bytes")[1], span_at([104, 240, 159, 152, 128], 3, "bytes")]
    [2, (1, 5, 128512)]
"""

MODULES = [errors, validation, texts, codecs]


def steps_of(example):
    """Tuples of a line behind >>> and the line that shows what it gives, None if there is none."""
    steps = []
    for line in [line.strip() for line in example.strip().split("\n")]:
        if line.startswith(">>> "):
            steps.append((line[4:], None))
        else:
            steps[-1] = (steps[-1][0], line)
    return steps


class Examples(unittest.TestCase):

    def check(self, example):
        names = {}
        for module in MODULES:
            names.update(vars(module))
        for line, shown in steps_of(example):
            with self.subTest(line):
                if shown is None:
                    exec(line, names)
                elif shown.startswith("raises "):
                    self.check_error(line, eval(shown[7:], names), names)
                else:
                    self.assertEqual(repr(eval(line, names)), shown)

    def check_error(self, line, wanted, names):
        with self.assertRaises(type(wanted)) as caught:
            eval(line, names)
        self.assertIs(type(caught.exception), type(wanted))
        self.assertEqual(vars(caught.exception), vars(wanted))

    def test_stage_1(self):
        self.check(STAGE_1)

    def test_stage_2(self):
        self.check(STAGE_2)

    def test_stage_3(self):
        self.check(STAGE_3)

    def test_readme(self):
        path = pathlib.Path(__file__).resolve().parent.parent / "README.md"
        result = doctest.testfile(str(path), module_relative=False)
        self.assertEqual(result.failed, 0)
        self.assertGreater(result.attempted, 0)


if __name__ == "__main__":
    unittest.main()
