"""The examples of the document, word for word."""

import doctest
import pathlib
import unittest

from threecounts import (claims, codecs, company, deltas, drafts, edits, errors, index, lines, places, programs,
                         server, session, strings, texts, validation)

STAGE_1 = """
    >>> [is_char(1114111), is_char(55296), is_chars([104, 128512]), is_kind("char"), is_name("editor")]
    [True, False, True, False, True]
    >>> [parse_integer("07"), parse_integer("39", high=38), split_words("a b+c", separator="+"), split_words("a  b")]
    [None, None, ['a b', 'c'], None]
"""

STAGE_2 = """
    >>> [width(8364, "bytes"), items(8364, "bytes"), items(128512, "units"), items(128512, "bytes")]
    [3, [226, 130, 172], [55357, 56832], [240, 159, 152, 128]]
    >>> text = Text([104, 8364, 128512])
    >>> [text.in_bytes, text.count("units"), len(text), text[1], text.part(1, 3).chars()]
    [8, 4, 3, 8364, [8364, 128512]]
    >>> [128512 in text, [104, 128512] in text, (text + [33]).chars(), ([33] + text)[0], joined() == Text([])]
    [True, False, [104, 8364, 128512, 33], 33, True]
    >>> one, other = Text([65535]), Text([65536])
    >>> [one < other, compare(one, other, "bytes"), compare(one, other, "units")]
    [True, -1, 1]
"""

STAGE_3 = """
    >>> [byte_list(Text([233, 128512])), text_of_units([55357, 56832]).chars()]
    [[195, 169, 240, 159, 152, 128], [128512]]
    >>> text_of_bytes([104, 224, 128, 128])
    raises BadSequence(2)
    >>> text_of_units([104, 55357])
    raises BadSequence(2)
    >>> reader = Reader("bytes")
    >>> [reader.feed([104, 240, 159]), reader.pending(), reader.missing, reader.feed([152, 128]), reader.close().chars()]
    [[104], [240, 159], 2, [128512], [104, 128512]]
    >>> [beginning([195, 169, 226, 130, 65], "bytes")[1], span_at([104, 240, 159, 152, 128], 3, "bytes")]
    [2, (1, 5, 128512)]
"""

STAGE_4 = """
    >>> text = Text([104, 8364, 128512])
    >>> [translated(text, 4, "bytes", "units"), numbers(text, "bytes"), is_place(text, 5, "bytes"), place_at(text, 2, "units").after()]
    [2, [0, 1, 4, 8], False, 128512]
    >>> place_at(text, 6, "bytes")
    raises MidChar(6, 4, 8)
    >>> cursor = Cursor(text)
    >>> cursor["units"] = 2
    >>> cursor -= 1
    >>> [cursor.count("bytes"), cursor.read(3, "bytes").chars(), cursor.count("chars"), nearest(text, 7, "bytes").in_chars]
    [1, [8364], 2, 2]
"""

STAGE_5 = """
    >>> lines = Lines(Text([97, 13, 10, 8364, 128512, 13, 98]))
    >>> [len(lines), lines.line(1).chars(), lines.ending(0), lines.row_start(2, "bytes"), lines.line(2).chars()]
    [3, [8364, 128512], [13, 10], 11, [98]]
    >>> [lines.position(6, "bytes"), lines.position(2, "chars"), lines.position(4, "chars", columns="units"), lines.column_in(1, 7, "bytes", "units")]
    [(1, 3), (0, 1), (1, 1), 3]
    >>> [lines.number_at(1, 3, "bytes"), lines.number_at(9, 9, "chars", clamp=True), lines.number_at(1, 2, "units", clamp=True)]
    [6, 7, 4]
    >>> lines.number_at(1, 2, "units")
    raises MidChar(2, 1, 3)
    >>> [unifying(Text([97, 13, 10, 98, 13]), [10]).rows(), text_width(Text([97, 98, 10, 8364]))]
    [[('keep', 1), ('drop', 1), ('keep', 2), ('put', [10]), ('drop', 1)], {'bytes': 3, 'units': 2, 'chars': 2}]
"""

STAGE_6 = """
    >>> delta = Delta([("keep", 1), ("drop", 1), ("put", [120]), ("drop", 1), ("put", [121]), ("keep", 0)])
    >>> [delta.rows(), delta.length_before, delta.length_after, delta(Text([97, 98, 99])).chars()]
    [[('keep', 1), ('put', [120, 121]), ('drop', 2)], 3, 3, [97, 120, 121]]
    >>> back = delta.inverted(Text([97, 98, 99]))
    >>> [back.rows(), (delta + back).is_plain, (delta + Delta([("drop", 3)])).rows()]
    [[('keep', 1), ('put', [98, 99]), ('drop', 2)], False, [('drop', 3)]]
    >>> one, other = Delta([("put", [88]), ("drop", 2)]), Delta([("keep", 1), ("put", [89]), ("keep", 1)])
    >>> [one.over(other, first=False).rows(), (one + other.over(one, first=True)).rows()]
    [[('put', [88]), ('drop', 1), ('keep', 1), ('drop', 1)], [('put', [88, 89]), ('drop', 2)]]
"""

STAGE_7 = """
    >>> text = Text([104, 128512, 33])
    >>> delta = delta_from([("keep", 1), ("drop", 2), ("put", [120])], text, "units")
    >>> [delta.rows(), counted(delta, text, "bytes"), delta(text).chars()]
    [[('keep', 1), ('put', [120]), ('drop', 1), ('keep', 1)], [('keep', 1), ('put', [120]), ('drop', 4), ('keep', 1)], [104, 120, 33]]
    >>> edits = [(5, 6, []), (1, 1, [120]), (1, 5, [121])]
    >>> [together(edits, text, "bytes").rows(), in_turn([(0, 1, []), (0, 2, [65])], text, "units")(text).chars()]
    [[('keep', 1), ('put', [120, 121]), ('drop', 2)], [65, 33]]
    >>> [edits_of(delta, text, "units"), recounted_in_turn([(0, 1, [128512]), (2, 4, [])], text, "units", "bytes")]
    [[(1, 3, [120])], [(0, 1, [128512]), (4, 8, [])]]
"""

STAGE_8 = """
    >>> draft = Draft(Text([104, 128512, 33]))
    >>> draft[2] = 8364
    >>> draft += [10]
    >>> [draft.replace(1, 3, [105], "units").chars(), draft.in_bytes, draft.made().rows()]
    [[104, 105, 8364, 10], 6, [('keep', 1), ('put', [105, 8364, 10]), ('drop', 2)]]
    >>> draft.drop(2, 4, "bytes")
    raises MidChar(4, 2, 5)
    >>> [draft.take_back().chars(), len(draft.changes()), draft.text() == draft.made()(draft.begun())]
    [[104, 128512, 8364, 10], 2, True]
"""

STAGE_9 = """
    >>> index = Index(Text([97, 13, 10, 8364, 128512]))
    >>> [index.find(4, "units"), index.line_of(2), index.line_start(1), index.blocks(), index.looked()]
    [(6, 4, 4), 0, 3, [(0, 5)], [(0, 5)]]
    >>> index.replace(2, 2, [10, 65, 66, 67])
    >>> [index.lines(), index.text().chars()[:4], index.height(), index.count("bytes"), len(index.blocks())]
    [3, [97, 13, 10, 65], 2, 14, 2]
"""

STAGE_10 = """
    >>> [is_possible((4, 2, 1)), is_possible((4, 1, 1)), range_of("chars", in_bytes=10, in_units=5), text_with((10, 5, 3)).count("bytes")]
    [True, False, (3, 5), 10]
    >>> claims = [(5, 3, None), (None, 5, 4), (12, None, 5)]
    >>> [bears(bearing(claims), claims), bearing([(5, 3, None), (None, 5, 2)])]
    [True, None]
    >>> conflict = [(5, 3, None), (None, 5, 2)]
    >>> [layers_of(conflict), shows_conflict(conflict, [[(5, 3, 2), (5, 3, 3)], []]), first_conflict(conflict)]
    [[[(5, 3, 2), (5, 3, 3)], []], True, 2]
    >>> possible_at(claims, 1)
    [(8, 5, 4), (9, 5, 4), (10, 5, 4), (11, 5, 4)]
"""

STAGE_11 = """
    >>> server = Server(Text([104, 128512]))
    >>> [server.join("ann", "bytes"), server.join("bob", "units"), server.submit("ann", 0, [("keep", 1), ("put", [8364])])]
    [0, 0, [('ann', ('ack', 1)), ('bob', ('change', 1, [('keep', 1), ('put', [8364]), ('keep', 2)]))]]
    >>> [server.submit("bob", 0, [("keep", 1), ("put", [33]), ("drop", 2)])[0], server.text().chars(), server.version, server.author(1)]
    [('ann', ('change', 2, [('keep', 4), ('put', [33]), ('drop', 4)])), [104, 8364, 33], 2, 'bob']
    >>> server.set_mark("m", 1, "chars", after=True)
    >>> message = server.submit("ann", 2, [("keep", 1), ("put", [45])])
    >>> [server.marks(), server.mark("m").in_bytes]
    [[(2, 'm')], 2]
"""

STAGE_12 = """
    >>> text = Text([104, 128512])
    >>> server, program = Server(text), Program("ann", "units", text, 0)
    >>> [server.join("ann", "units"), server.join("bob", "bytes"), program.edit([(3, 3, [33])]), program.send()]
    [0, 0, None, ('ann', 0, [('keep', 3), ('put', [33])])]
    >>> message = server.submit("bob", 0, [("keep", 1), ("drop", 4)])[0][1]
    >>> [message, program.receive(message), program.text().chars(), program.base().chars(), program.version]
    [('change', 1, [('keep', 1), ('drop', 2)]), None, [104, 33], [104], 1]
    >>> [program.undo(), program.text().chars(), program.undo_count, program.is_idle]
    [None, [104], 0, False]
"""

STAGE_13 = """
    >>> company = Company(Text([97, 8364]))
    >>> [company.join("ann", "bytes"), company.join("bob", "units"), company.edit("ann", [(4, 4, [33])]), company.edit("bob", [(1, 2, [128512])])]
    [0, 0, None, None]
    >>> [company.send("ann"), company.deliver_up("ann"), company.text("bob").chars(), company.deliver_down("bob"), company.text("bob").chars()]
    [True, 1, [97, 128512], ('change', 1, [('keep', 2), ('put', [33])]), [97, 128512, 33]]
    >>> [company.queues("ann"), company.is_quiet, company.settle(), company.text("ann").chars(), company.version]
    [(0, 1), False, 4, [97, 128512, 33], 2]
"""

STAGE_14 = """
    >>> [delta_string(Delta([("keep", 2), ("put", [128512, 33]), ("drop", 1)])).split("\\n"), parse_text("104 8364").chars()]
    [['keep 2', 'put 128512 33', 'drop 1'], [104, 8364]]
    >>> [edits_string([(5, 6, []), (1, 1, [120])]).split("\\n"), parse_claims("5 3 -\\n- 5 4")]
    [['5 6', '1 1 120'], [(5, 3, None), (None, 5, 4)]]
    >>> parse_history("text 104 33\\nann keep 1 / put 8364 / keep 1")[1][0][0]
    'ann'
    >>> parse_history("text 104 33\\nann keep 1 / put 8364 / keep 1\\nbob keep 2")
    raises InvalidLine(2)
    >>> session = Session()
    >>> [session.execute(line) for line in ["begin 104 128512", "join ann bytes", "edit ann 1 5 8364 / 5 5 33", "send ann", "up ann", "place 4 bytes units", "history"]]
    ['ok', '0', 'ok', 'sent', '1', '2', 'text 104 128512 / ann keep 1 | put 8364 33 | drop 1']
"""

MODULES = [errors, validation, texts, codecs, places, lines, deltas, edits, drafts, index, claims, server, programs,
           company, strings, session]


def steps_of(example):
    """Tuples of a line behind >>> and the line that shows what it gives, None if there is none."""
    steps = []
    for line in [line.strip() for line in example.strip().split("\n")]:
        if line.startswith(">>> "):
            steps.append((line[4:], None))
        else:
            steps[-1] = (steps[-1][0], line)
    return steps


class Examples(unittest.TestCase):

    def check(self, example):
        names = {}
        for module in MODULES:
            names.update(vars(module))
        for line, shown in steps_of(example):
            with self.subTest(line):
                if shown is None:
                    exec(line, names)
                elif shown.startswith("raises "):
                    self.check_error(line, eval(shown[7:], names), names)
                else:
                    self.assertEqual(repr(eval(line, names)), shown)

    def check_error(self, line, wanted, names):
        with self.assertRaises(type(wanted)) as caught:
            eval(line, names)
        self.assertIs(type(caught.exception), type(wanted))
        self.assertEqual(vars(caught.exception), vars(wanted))

    def test_stage_1(self):
        self.check(STAGE_1)

    def test_stage_2(self):
        self.check(STAGE_2)

    def test_stage_3(self):
        self.check(STAGE_3)

    def test_stage_4(self):
        self.check(STAGE_4)

    def test_stage_5(self):
        self.check(STAGE_5)

    def test_stage_6(self):
        self.check(STAGE_6)

    def test_stage_7(self):
        self.check(STAGE_7)

    def test_stage_8(self):
        self.check(STAGE_8)

    def test_stage_9(self):
        self.check(STAGE_9)

    def test_stage_10(self):
        self.check(STAGE_10)

    def test_stage_11(self):
        self.check(STAGE_11)

    def test_stage_12(self):
        self.check(STAGE_12)

    def test_stage_13(self):
        self.check(STAGE_13)

    def test_stage_14(self):
        self.check(STAGE_14)

    def test_readme(self):
        path = pathlib.Path(__file__).resolve().parent.parent / "README.md"
        result = doctest.testfile(str(path), module_relative=False)
        self.assertEqual(result.failed, 0)
        self.assertGreater(result.attempted, 0)


if __name__ == "__main__":
    unittest.main()
