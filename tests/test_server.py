"""Promises 111 to 113: the server."""

import random
import unittest

from tests.helper import (KINDS, NO_CHARS, NO_KINDS, ErrorCase, counts_after, is_plain_integer, no_texts, odd_values,
                          random_chars)
from tests.oracles import changed, normal_rows, random_rows
from threecounts.deltas import Delta
from threecounts.edits import counted, delta_from
from threecounts.errors import (BadPlace, BadRow, DuplicateName, InvalidFlag, InvalidKind, InvalidName, InvalidRow,
                                InvalidRows, InvalidText, InvalidVersion, MidChar, UnknownMark, UnknownName)
from threecounts.places import Place
from threecounts.server import Server
from threecounts.texts import Text

SAMPLE = [104, 128512, 8364]
HUGE = 10 ** 30
NO_NAMES = ["", "A", "ann1", "an n", "abcdefghi", "ann\n", "_", None, True, 0, ["ann"], ("ann",), {}, Text([97])]


def state(server):
    """All that a server answers."""
    many = server.version
    return [many, [server.text(at).chars() for at in range(many + 1)], server.text().chars(),
            [server.delta(at).rows() for at in range(many)], [server.author(at) for at in range(many)], server.names(),
            [server.kind_of(name) for name in server.names()], server.marks(),
            [server.mark(label).in_chars for _, label in server.marks()],
            [server.missed(name, 0) for name in server.names()]]


def with_programs(chars, names=("ann", "bob", "carl")):
    server = Server(Text(chars))
    for name, kind in zip(names, KINDS):
        server.join(name, kind)
    return server


class Versions(ErrorCase):

    def test_at_first(self):
        for chars in [[], SAMPLE, [128512] * 600]:
            server = Server(text=Text(chars))
            self.assertEqual([server.version, server.names(), server.marks()], [0, [], []])
            for text in [server.text(), server.text(0), server.text(None), server.text(version=0)]:
                self.assertIs(type(text), Text)
                self.assertEqual(text.chars(), chars)

    def test_no_text(self):
        for value in no_texts():
            self.raised(InvalidText, {"value": value}, Server, value)

    def test_a_server_equals_only_itself(self):
        text = Text(SAMPLE)
        server = Server(text)
        self.assertTrue(server == server)
        self.assertFalse(server == Server(text))
        self.assertEqual(repr(server), repr(server))

    def test_each_version(self):
        server = with_programs(SAMPLE)
        server.submit("ann", 0, [("keep", 1), ("put", [33]), ("drop", 4)])
        server.submit("carl", 1, [("drop", 1)])
        server.submit("ann", 2, [])
        texts = [SAMPLE, [104, 33, 8364], [33, 8364], [33, 8364]]
        self.assertEqual([server.text(at).chars() for at in range(4)], texts)
        self.assertEqual([server.version, server.text().chars()], [3, texts[-1]])
        self.assertEqual([server.author(version=at) for at in range(3)], ["ann", "carl", "ann"])
        self.assertEqual([server.delta(version=at).rows() for at in range(3)],
                         [[("keep", 1), ("put", [33]), ("drop", 1), ("keep", 1)], [("drop", 1), ("keep", 2)],
                          [("keep", 2)]])
        for at in range(3):
            self.assertIs(type(server.delta(at)), Delta)
            self.assertEqual(server.delta(at)(server.text(at)), server.text(at + 1))

    def test_no_versions(self):
        server = with_programs(SAMPLE)
        wrong = [HUGE, -HUGE, -1] + [value for value in odd_values() if not is_plain_integer(value)]
        for _ in range(3):
            newest = server.version
            before = state(server)
            for value in wrong + [newest + 1]:
                if value is not None:
                    self.raised(InvalidVersion, {"value": value}, server.text, value)
                self.raised(InvalidVersion, {"value": value}, server.missed, "ann", value)
                self.raised(InvalidVersion, {"value": value}, server.submit, "ann", value, None)
            for value in wrong + [newest, newest + 1]:
                self.raised(InvalidVersion, {"value": value}, server.delta, value)
                self.raised(InvalidVersion, {"value": value}, server.author, value)
            self.assertEqual(state(server), before)
            server.submit("bob", 0, [("put", [97])])


class Names(ErrorCase):

    def test_joining(self):
        server = Server(Text(SAMPLE))
        for at, (name, kind) in enumerate([("zoe", "units"), ("a", "bytes"), ("abcdefgh", "chars"), ("bob", "units")]):
            self.assertEqual(server.join(name, kind), at)
            self.assertEqual(server.submit(name, at, [("put", [97])])[0][0], "zoe")
            self.assertEqual(server.kind_of(name=name), kind)
        self.assertEqual(server.names(), ["zoe", "a", "abcdefgh", "bob"])
        server.names().append("x")
        self.assertEqual(server.names(), ["zoe", "a", "abcdefgh", "bob"])
        self.assertIsNot(server.names(), server.names())

    def test_refusals_in_their_order(self):
        server = with_programs(SAMPLE)
        before = state(server)
        for value in NO_NAMES + odd_values():
            if value not in ("a", "bytes"):
                self.raised(InvalidName, {"value": value}, server.join, value, "x")
        for name in ["ann", "bob", "carl"]:
            self.raised(DuplicateName, {"label": name}, server.join, name, "x")
        for kind in NO_KINDS:
            self.raised(InvalidKind, {"value": kind}, server.join, "dora", kind)
        for value in NO_NAMES + odd_values() + ["dora"]:
            self.raised(UnknownName, {"label": value}, server.kind_of, value)
            self.raised(UnknownName, {"label": value}, server.missed, value, -1)
            self.raised(UnknownName, {"label": value}, server.submit, value, -1, None)
        self.assertEqual(state(server), before)
        self.assertEqual(server.join(kind="bytes", name="dora"), 0)


class Submitting(ErrorCase):

    def test_messages_to_all_in_their_order_and_kinds(self):
        server = with_programs(SAMPLE)
        self.assertEqual(server.submit("bob", 0, [("keep", 1), ("put", (65, 128512)), ("drop", 2)]),
                         [("ann", ("change", 1, [("keep", 1), ("put", [65, 128512]), ("drop", 4), ("keep", 3)])),
                          ("bob", ("ack", 1)),
                          ("carl", ("change", 1, [("keep", 1), ("put", [65, 128512]), ("drop", 1), ("keep", 1)]))])
        self.assertEqual(server.submit(rows=[("drop", 2)], version=1, name="carl"),
                         [("ann", ("change", 2, [("drop", 2), ("keep", 7)])),
                          ("bob", ("change", 2, [("drop", 2), ("keep", 3)])), ("carl", ("ack", 2))])
        self.assertEqual(server.text().chars(), [128512, 8364])

    def test_a_program_alone(self):
        server = Server(Text([]))
        server.join("ann", "bytes")
        self.assertEqual(server.submit("ann", 0, []), [("ann", ("ack", 1))])
        self.assertEqual(server.delta(0).rows(), [])
        self.assertEqual(server.submit("ann", 1, [("put", [97])]), [("ann", ("ack", 2))])
        self.assertEqual(server.missed("ann", 0), [("change", 1, []), ("change", 2, [("put", [97])])])

    def test_changes_of_older_versions(self):
        server = with_programs([97, 98, 99])
        server.submit("ann", 0, [("put", [65])])
        server.submit("ann", 1, [("keep", 1), ("drop", 1)])
        # For version 0: the 97 is gone, and what was put at the same place stands ahead.
        found = server.submit("bob", 0, [("put", [66]), ("drop", 2)])
        self.assertEqual(found[0], ("ann", ("change", 3, [("keep", 1), ("put", [66]), ("drop", 1), ("keep", 1)])))
        self.assertEqual(server.text().chars(), [65, 66, 99])
        server.submit("carl", 0, [("keep", 3), ("put", [67])])
        server.submit("ann", 2, [("put", [68]), ("keep", 3), ("put", [69])])
        self.assertEqual(server.text().chars(), [68, 65, 66, 99, 67, 69])

    def test_random_changes_of_random_versions(self):
        source = random.Random(112)
        for _ in range(60):
            server = with_programs(random_chars(source, 10))
            for _ in range(12):
                name = source.choice(server.names())
                version = source.randint(0, server.version)
                self.submit(source, server, name, version)
            for at in range(server.version):
                self.assertEqual(server.delta(at)(server.text(at)), server.text(at + 1))
            self.check_missed(server)

    def submit(self, source, server, name, version):
        """Submit a change, and check the new version and all messages."""
        text, before = server.text(version), server.text()
        delta = Delta(random_rows(source, len(text), 4))
        rows = counted(delta, text, server.kind_of(name))
        wanted = delta
        for later in range(version, server.version):
            wanted = wanted.over(server.delta(later), first=False)
        number = server.version + 1
        found = server.submit(name, version, source.choice([list, tuple])(rows))
        self.assertEqual([server.version, server.author(number - 1)], [number, name])
        self.assertEqual(server.delta(number - 1), wanted)
        self.assertEqual(server.text(), wanted(before))
        self.assertIs(type(found), list)
        self.assertEqual([row[0] for row in found], server.names())
        for label, message in found:
            if label == name:
                self.assertEqual(message, ("ack", number))
            else:
                kind = server.kind_of(label)
                self.assertEqual(message, ("change", number, counted(wanted, before, kind)))
                self.assertEqual(delta_from(message[2], before, kind), wanted)

    def check_missed(self, server):
        for name in server.names():
            kind = server.kind_of(name)
            messages = [("change", at + 1, counted(server.delta(at), server.text(at), kind))
                        for at in range(server.version)]
            for version in range(server.version + 1):
                self.assertEqual(server.missed(name, version), messages[version:])

    def test_every_order_of_two_changes_leads_to_both(self):
        for one, other in [([("keep", 1), ("put", [65])], [("keep", 1), ("drop", 1)]),
                           ([("drop", 3)], [("keep", 2), ("put", [66])]), ([("put", [65])], [("put", [66])])]:
            first = with_programs([97, 98, 99])
            first.submit("ann", 0, one)
            first.submit("bob", 0, other)
            wanted = Delta(normal_rows(one + [("keep", 3 - sum([what for word, what in one if word != "put"]))]))
            self.assertEqual(first.text(1).chars(), changed(wanted.rows(), [97, 98, 99]))
            second = with_programs([97, 98, 99])
            second.submit("bob", 0, other)
            second.submit("ann", 0, one)
            self.assertEqual(sorted(first.text().chars()), sorted(second.text().chars()))

    def test_rows_that_are_refused(self):
        server = with_programs(SAMPLE)
        server.submit("carl", 0, [("drop", 1)])
        before = state(server)
        for value in odd_values() + [[("keep", 0)] * 1301]:
            if not isinstance(value, (list, tuple)) or len(value) > 1300:
                self.raised(InvalidRows, {"value": value}, server.submit, "ann", 0, value)
        for item in [("keep", 2401), ("keep", True), ["keep", 1], ("put", [55296]), ("put", [65] * 601), None, ()]:
            self.raised(InvalidRow, {"value": item}, server.submit, "ann", 0, [("keep", 9), item])
        # The sample has 8 bytes and 4 units in version 0, and 7 bytes in version 1.
        for name, version, rows, index, cause, fields in [
                ("ann", 0, [("keep", 9)], 0, BadPlace, {"number": 9}),
                ("ann", 1, [("put", []), ("keep", 8)], 1, BadPlace, {"number": 8}),
                ("ann", 0, [("keep", 1), ("drop", 3)], 1, MidChar, {"number": 4, "start": 1, "end": 5}),
                ("bob", 0, [("drop", 2)], 0, MidChar, {"number": 2, "start": 1, "end": 3}),
                ("bob", 1, [("drop", 1)], 0, MidChar, {"number": 1, "start": 0, "end": 2}),
                ("carl", 1, [("keep", 1), ("drop", 2)], 1, BadPlace, {"number": 3})]:
            error = self.raised(BadRow, {"index": index}, server.submit, name, version, rows)
            self.assertIs(type(error.__cause__), cause)
            self.assertEqual(vars(error.__cause__), fields)
        self.assertEqual(state(server), before)

    def test_lists_may_be_changed(self):
        server = with_programs(SAMPLE)
        put = [65]
        rows = [("put", put)]
        found = server.submit("ann", 0, rows)
        put.append(66)
        rows.append(("drop", 1))
        before = state(server)
        lists = [found, found[1][1][2], found[1][1][2][0][1], found[2][1][2], found[2][1][2][0][1]]
        self.assertEqual(len(set([id(thing) for thing in lists])), 5)
        for thing in lists + [server.missed("ann", 0), server.missed("ann", 0)[0][2], server.marks()]:
            thing.append(1)
        self.assertEqual(state(server), before)
        self.assertEqual(server.text().chars(), [65] + SAMPLE)

    def test_to_the_bounds(self):
        server = with_programs([97] * 120)
        for at in range(180):
            server.submit("ann", at // 2, [("put", [128512, 98] if at % 2 else [8364])])
        self.assertEqual([server.version, len(server.text())], [180, 390])
        server.submit("bob", 0, [("keep", 120), ("put", [65] * 210)])
        self.assertEqual(server.text().chars()[-210:], [65] * 210)
        server.submit("carl", 181, [("drop", 600)])
        self.assertEqual(server.text().chars(), [])


class Marks(ErrorCase):

    def test_both_sides_at_every_gap(self):
        server = Server(Text(SAMPLE))
        for kind in KINDS:
            for ahead, number in enumerate(counts_after(SAMPLE)[kind]):
                self.assertIsNone(server.set_mark("m", number, kind))
                self.assertEqual(server.mark("m"), Place(Text(SAMPLE), ahead))
                self.assertIsNone(server.set_mark("m", number, kind, after=True))
                self.assertIs(type(server.mark("m")), Place)
                self.assertEqual(server.mark("m").count(kind), number)
                self.assertEqual(server.marks(), [(ahead, "m")])

    def marked(self, size):
        """A server with marks of both sides at every gap, a.. before and b.. after what is put there."""
        server = with_programs(list(range(1000, 1000 + size)))
        for gap in range(size + 1):
            server.set_mark("a" + "abcdefghijk"[gap], gap, "chars", after=False)
            server.set_mark("b" + "abcdefghijk"[gap], gap, "chars", after=True)
        return server

    def test_random_changes(self):
        source = random.Random(113)
        for _ in range(120):
            size = source.randint(0, 8)
            server = self.marked(size)
            sides = {side: list(range(size + 1)) for side in "ab"}
            for _ in range(4):
                rows = random_rows(source, len(server.text()), 4)
                server.submit("carl", server.version, rows)
                sides = {side: [self.moved(rows, ahead, side == "b") for ahead in sides[side]] for side in "ab"}
                rows = [(ahead, side + letter) for side in "ab" for ahead, letter in zip(sides[side], "abcdefghijk")]
                self.assertEqual(server.marks(), sorted(rows))
                for ahead, label in rows:
                    self.assertEqual(server.mark(label), Place(server.text(), ahead))
                self.assertEqual([sides["a"], sides["b"]], [sorted(sides["a"]), sorted(sides["b"])])

    def moved(self, rows, ahead, after):
        """Where a mark stands after rows: step by step, the puts of the normal form ahead of the drops."""
        at = found = 0
        for word, what in normal_rows(rows):
            if word == "put":
                found += len(what) if at < ahead or (at == ahead and after) else 0
            else:
                found += max(0, min(what, ahead - at)) if word == "keep" else 0
                at += what
        return found

    def test_by_hand(self):
        server = self.marked(3)
        server.submit("carl", 0, [("keep", 1), ("put", [65, 66]), ("drop", 1), ("put", [67])])
        # The put behind the drop counts as ahead of it, in gap 1.
        self.assertEqual(server.marks(), [(0, "aa"), (0, "ba"), (1, "ab"), (4, "ac"), (4, "bb"), (4, "bc"),
                                          (5, "ad"), (5, "bd")])
        server.submit("carl", 1, [("drop", 5)])
        self.assertEqual([ahead for ahead, _ in server.marks()], [0] * 8)
        server.submit("carl", 2, [("put", [65])])
        self.assertEqual(server.marks(), [(0, "a" + letter) for letter in "abcd"] +
                         [(1, "b" + letter) for letter in "abcd"])

    def test_a_change_of_an_older_version(self):
        server = with_programs([97, 98])
        server.submit("ann", 0, [("put", [65])])
        server.set_mark("m", 2, "bytes", after=True)
        server.submit("bob", 0, [("keep", 1), ("put", [66])])
        self.assertEqual(server.marks(), [(3, "m")])

    def test_setting_anew_and_removing(self):
        server = with_programs(SAMPLE)
        server.set_mark("m", 1, "bytes", after=True)
        server.set_mark("ann", 8, "bytes")
        server.set_mark("m", 0, "units")
        self.assertEqual(server.marks(), [(0, "m"), (3, "ann")])
        server.submit("carl", 0, [("put", [65])])
        self.assertEqual(server.marks(), [(0, "m"), (4, "ann")])
        self.assertIsNone(server.remove_mark("m"))
        self.assertEqual(server.marks(), [(4, "ann")])
        self.raised(UnknownMark, {"label": "m"}, server.mark, "m")
        self.raised(UnknownMark, {"label": "m"}, server.remove_mark, "m")
        server.remove_mark(label="ann")
        self.assertEqual(server.marks(), [])

    def test_refusals_in_their_order(self):
        server = with_programs(SAMPLE)
        server.set_mark("m", 1, "bytes")
        before = state(server)
        for value in NO_NAMES:
            self.raised(InvalidName, {"value": value}, server.set_mark, value, -1, "x", after=None)
        for kind in NO_KINDS:
            self.raised(InvalidKind, {"value": kind}, server.set_mark, "m", -1, kind, after=None)
        for kind in KINDS:
            counts = counts_after(SAMPLE)[kind]
            for number in [-1, counts[-1] + 1, HUGE, True, None, "1", [1]]:
                self.raised(BadPlace, {"number": number}, server.set_mark, "m", number, kind, after=None)
        self.raised(MidChar, {"number": 2, "start": 1, "end": 5}, server.set_mark, "m", 2, "bytes", after=None)
        self.raised(MidChar, {"number": 2, "start": 1, "end": 3}, server.set_mark, "m", 2, "units", after=None)
        for value in odd_values():
            if value is not True and value is not False:
                self.raised(InvalidFlag, {"value": value}, server.set_mark, "m", 5, "bytes", after=value)
        for value in NO_NAMES + odd_values() + ["ann", "n"]:
            self.raised(UnknownMark, {"label": value}, server.mark, value)
            self.raised(UnknownMark, {"label": value}, server.remove_mark, value)
        self.assertEqual(state(server), before)

    def test_the_newest_text_counts(self):
        server = with_programs([97])
        server.submit("ann", 0, [("put", [128512])])
        server.set_mark(kind="bytes", number=4, label="m", after=False)
        self.assertEqual(server.mark(label="m").before(), 128512)
        self.raised(MidChar, {"number": 1, "start": 0, "end": 4}, server.set_mark, "m", 1, "bytes")

    def test_no_characters_are_refused_in_rows(self):
        server = with_programs([97])
        for char in NO_CHARS:
            item = ("put", [char])
            self.raised(InvalidRow, {"value": item}, server.submit, "ann", 0, [item])
        self.assertEqual(server.version, 0)


if __name__ == "__main__":
    unittest.main()
