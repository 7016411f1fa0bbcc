"""Promises 121 to 124: programs."""

import random
import unittest

from tests.helper import (KINDS, NO_KINDS, ErrorCase, counts_after, is_plain_integer, no_texts, odd_values,
                          random_chars)
from tests.oracles import distinct_chars, random_rows
from threecounts.deltas import Delta
from threecounts.edits import counted, delta_from
from threecounts.errors import (BadPlace, BadRow, InvalidEdit, InvalidEdits, InvalidKind, InvalidMessage, InvalidName,
                                InvalidRow, InvalidRows, InvalidText, InvalidVersion, MidChar, NothingToUndo, Overlap)
from threecounts.programs import Program
from threecounts.server import Server
from threecounts.texts import Text

SAMPLE = [104, 128512, 8364]
HUGE = 10 ** 30
NO_NAMES = ["", "A", "ann1", "an n", "abcdefghi", "ann\n", None, True, 0, ["ann"], ("ann",), {}, Text([97])]


def state(program):
    """All that a program answers."""
    return [program.name, program.kind, program.version, program.is_idle, program.base().chars(),
            program.text().chars(), program.undo_count]


def program_of(chars, kind="chars", version=0):
    return Program("ann", kind, Text(chars), version)


def moved_back(program, rows):
    """What a program would be if it received this change: its base, its text."""
    program.receive(("change", program.version + 1, rows))
    return [program.base().chars(), program.text().chars()]


class WhatAProgramTells(ErrorCase):

    def test_at_first(self):
        for kind in KINDS:
            for version in [0, 7, 1000]:
                program = Program("editor", kind, Text(SAMPLE), version)
                self.assertEqual(state(program), ["editor", kind, version, True, SAMPLE, SAMPLE, 0])
                self.assertIs(type(program.base()), Text)
                self.assertIs(type(program.text()), Text)
                self.assertIsNone(program.send())

    def test_by_name_and_equality(self):
        program = Program(version=3, text=Text([]), kind="bytes", name="a")
        self.assertEqual(state(program), ["a", "bytes", 3, True, [], [], 0])
        self.assertTrue(program == program)
        self.assertFalse(program == Program("a", "bytes", Text([]), 3))
        self.assertEqual(repr(program), repr(program))

    def test_refusals_in_their_order(self):
        for name in NO_NAMES:
            self.raised(InvalidName, {"value": name}, Program, name, "x", None, -1)
        for kind in NO_KINDS:
            self.raised(InvalidKind, {"value": kind}, Program, "ann", kind, None, -1)
        for text in no_texts():
            self.raised(InvalidText, {"value": text}, Program, "ann", "bytes", text, -1)
        wrong = [-1, 1001, HUGE, -HUGE] + [value for value in odd_values() if not is_plain_integer(value)]
        for version in wrong:
            self.raised(InvalidVersion, {"value": version}, Program, "ann", "bytes", Text([]), version)


class EditingAndSending(ErrorCase):

    def test_edits_in_each_kind(self):
        for kind in KINDS:
            counts = counts_after(SAMPLE)[kind]
            program = program_of(SAMPLE, kind)
            self.assertIsNone(program.edit([(counts[2], counts[3], [33]), (counts[1], counts[1], (65, 128512))]))
            self.assertEqual(state(program), ["ann", kind, 0, False, SAMPLE, [104, 65, 128512, 128512, 33], 1])
            wide = counts[2] - counts[1]
            self.assertIsNone(program.change([("keep", counts[1] + 1), ("drop", 2 * wide)]))
            self.assertEqual(state(program), ["ann", kind, 0, False, SAMPLE, [104, 65, 33], 2])
            self.assertEqual(program.send(), ("ann", 0, [("keep", counts[1]), ("put", [65, 33]),
                                                         ("drop", counts[3] - counts[1])]))
            self.assertEqual(state(program), ["ann", kind, 0, False, SAMPLE, [104, 65, 33], 2])

    def test_changes_of_nothing_wait_too(self):
        for call in [lambda program: program.edit([]), lambda program: program.change([]),
                     lambda program: program.edit([(1, 1, [])]), lambda program: program.change([("keep", 0)])]:
            program = program_of([97, 98], "units")
            call(program)
            self.assertEqual(state(program), ["ann", "units", 0, False, [97, 98], [97, 98], 1])
            self.assertEqual(program.send(), ("ann", 0, [("keep", 2)]))
            self.assertIsNone(program.receive(("ack", 1)))
            self.assertEqual(state(program), ["ann", "units", 1, True, [97, 98], [97, 98], 1])
        program = program_of([])
        program.change([])
        self.assertEqual(program.send(), ("ann", 0, []))

    def test_send_before_and_after_the_acknowledgment(self):
        program = program_of(SAMPLE, "bytes", 5)
        self.assertIsNone(program.send())
        program.edit([(0, 1, [])])
        self.assertEqual(program.send(), ("ann", 5, [("drop", 1), ("keep", 7)]))
        self.assertIsNone(program.send())
        program.edit([(4, 4, [10])])
        program.change([("drop", 4)])
        self.assertIsNone(program.send())
        self.assertEqual(state(program), ["ann", "bytes", 5, False, SAMPLE, [10, 8364], 3])
        program.receive(("ack", 6))
        self.assertEqual(state(program), ["ann", "bytes", 6, False, [128512, 8364], [10, 8364], 3])
        self.assertEqual(program.send(), ("ann", 6, [("put", [10]), ("drop", 4), ("keep", 3)]))
        program.receive(("ack", 7))
        self.assertEqual(state(program), ["ann", "bytes", 7, True, [10, 8364], [10, 8364], 3])
        self.assertIsNone(program.send())

    def test_random_calls_compose(self):
        source = random.Random(122)
        for _ in range(100):
            chars = random_chars(source, 10)
            kind = source.choice(KINDS)
            program = program_of(chars, kind)
            whole = Delta([("keep", len(chars))])
            for _ in range(source.randint(1, 5)):
                delta = Delta(random_rows(source, len(program.text()), 3))
                program.change(counted(delta, program.text(), kind))
                whole = whole + delta
            self.assertEqual(program.text(), whole(Text(chars)))
            self.assertEqual(program.send(), ("ann", 0, counted(whole, Text(chars), kind)))

    def test_refusals_of_edits(self):
        program = program_of(SAMPLE, "units")
        program.edit([(0, 0, [65])])
        before = state(program)
        for value in odd_values() + [[(0, 0, [])] * 61]:
            if not isinstance(value, (list, tuple)) or len(value) > 60:
                self.raised(InvalidEdits, {"value": value}, program.edit, value)
        for item in [(0, 0), (1, 0, []), (0, True, []), [0, 0, []], (0, 0, [55296]), None]:
            self.raised(InvalidEdit, {"value": item}, program.edit, [(0, 1, []), item])
        self.raised(BadPlace, {"number": 6}, program.edit, [(0, 6, [])])
        self.raised(MidChar, {"number": 3, "start": 2, "end": 4}, program.edit, [(2, 3, [])])
        self.raised(Overlap, {"index": 1}, program.edit, [(0, 2, []), (1, 2, [])])
        self.assertEqual(state(program), before)
        self.assertEqual(program.send()[2], [("put", [65]), ("keep", 4)])

    def test_refusals_of_rows(self):
        program = program_of(SAMPLE, "units")
        program.edit([(0, 0, [65])])
        before = state(program)
        for value in odd_values() + [[("keep", 0)] * 1301]:
            if not isinstance(value, (list, tuple)) or len(value) > 1300:
                self.raised(InvalidRows, {"value": value}, program.change, value)
        for item in [("keep", 2401), ["keep", 1], ("put", [55296]), None]:
            self.raised(InvalidRow, {"value": item}, program.change, [("keep", 0), item])
        error = self.raised(BadRow, {"index": 1}, program.change, [("keep", 2), ("drop", 1)])
        self.assertEqual(vars(error.__cause__), {"number": 3, "start": 2, "end": 4})
        error = self.raised(BadRow, {"index": 0}, program.change, [("keep", 6)])
        self.assertEqual(vars(error.__cause__), {"number": 6})
        self.assertEqual(state(program), before)

    def test_lists_may_be_changed(self):
        program = program_of([97])
        put, new = [98], [99]
        rows, edits = [("put", put)], [(0, 0, new)]
        program.change(rows=rows)
        program.edit(edits=edits)
        for thing in [put, new, rows, edits]:
            thing.append(120)
        self.assertEqual(program.text().chars(), [99, 98, 97])
        message = program.send()
        message[2][0][1].append(120)
        message[2].append(1)
        program.receive(("ack", 1))
        self.assertEqual(program.base().chars(), [99, 98, 97])


class Receiving(ErrorCase):

    def states(self):
        """Programs in every state: nothing sent, sent, sent and waiting, waiting."""
        programs = [program_of([97, 98, 99]) for _ in range(4)]
        for program in programs[1:3]:
            program.edit([(0, 0, [65]), (1, 2, [])])
            program.send()
        for program in programs[2:]:
            program.edit([(2, 2, [66])])
        return programs

    def test_what_each_state_is(self):
        self.assertEqual([state(program)[3:] for program in self.states()],
                         [[True, [97, 98, 99], [97, 98, 99], 0], [False, [97, 98, 99], [65, 97, 99], 1],
                          [False, [97, 98, 99], [65, 97, 66, 99], 2], [False, [97, 98, 99], [97, 98, 66, 99], 1]])

    def test_acknowledgments(self):
        idle, sent, both, waiting = self.states()
        for program in [sent, both]:
            self.assertIsNone(program.receive(message=("ack", 1)))
        self.assertEqual(state(sent)[2:], [1, True, [65, 97, 99], [65, 97, 99], 1])
        self.assertEqual(state(both)[2:], [1, False, [65, 97, 99], [65, 97, 66, 99], 2])
        self.assertEqual(both.send(), ("ann", 1, [("keep", 2), ("put", [66]), ("keep", 1)]))
        for program in [idle, waiting, sent]:
            message = ("ack", program.version + 1)
            before = state(program)
            self.raised(InvalidMessage, {"value": message}, program.receive, message)
            self.assertEqual(state(program), before)

    def test_changes_in_every_state(self):
        rows = [("put", [67]), ("keep", 1), ("drop", 1), ("put", (68,))]
        idle, sent, both, waiting = self.states()
        self.assertEqual(moved_back(idle, rows), [[67, 97, 68, 99]] * 2)
        self.assertEqual(moved_back(sent, rows), [[67, 97, 68, 99], [67, 65, 97, 68, 99]])
        self.assertEqual(moved_back(both, rows), [[67, 97, 68, 99], [67, 65, 97, 68, 66, 99]])
        self.assertEqual(moved_back(waiting, rows), [[67, 97, 68, 99], [67, 97, 68, 66, 99]])
        self.assertEqual([program.version for program in [idle, sent, both, waiting]], [1] * 4)
        self.assertEqual(waiting.send(), ("ann", 1, [("keep", 3), ("put", [66]), ("keep", 1)]))
        sent.receive(("ack", 2))
        self.assertEqual(state(sent)[2:], [2, True, [67, 65, 97, 68, 99], [67, 65, 97, 68, 99], 1])

    def test_puts_at_the_same_place(self):
        # What the server's change puts stands ahead of the sent and of the waiting.
        program = program_of([97, 98])
        program.edit([(1, 1, [65])])
        program.send()
        program.edit([(2, 2, [66])])
        self.assertEqual(moved_back(program, [("keep", 1), ("put", [67])]), [[97, 67, 98], [97, 67, 65, 66, 98]])
        self.assertEqual(moved_back(program, [("keep", 2), ("put", [68])]), [[97, 67, 68, 98], [97, 67, 68, 65, 66, 98]])

    def test_drops_over_one_another(self):
        program = program_of([97, 98, 99, 100])
        program.edit([(0, 2, [])])
        program.send()
        program.edit([(0, 1, [])])
        self.assertEqual(moved_back(program, [("keep", 1), ("drop", 2)]), [[97, 100], [100]])
        program.receive(("ack", 2))
        self.assertEqual(state(program)[4:6], [[100], [100]])
        self.assertEqual(program.send(), ("ann", 2, [("keep", 1)]))

    def test_the_own_text_is_the_base_with_the_own_changes(self):
        source = random.Random(123)
        for _ in range(80):
            kind = source.choice(KINDS)
            chars = random_chars(source, 10)
            server, program = Server(Text(chars)), Program("ann", kind, Text(chars), 0)
            server.join("ann", kind)
            server.join("bob", "chars")
            sent = waiting = None
            for _ in range(15):
                word = source.choice(["own", "send", "other", "ack"])
                if word == "own":
                    delta = Delta(random_rows(source, len(program.text()), 4))
                    program.change(counted(delta, program.text(), kind))
                    waiting = delta if waiting is None else waiting + delta
                elif word == "send" and waiting and not sent:
                    rows = program.send()[2]
                    self.assertEqual(delta_from(rows, program.base(), kind), waiting)
                    sent, waiting = waiting, None
                elif word == "other":
                    rows = random_rows(source, len(server.text()), 4)
                    program.receive(server.submit("bob", server.version, rows)[0][1])
                    sent, waiting = self.moved(server.delta(server.version - 1), sent, waiting)
                elif word == "ack" and sent:
                    program.receive(server.submit("ann", program.version, counted(sent, program.base(), kind))[0][1])
                    sent = None
                self.assertEqual([program.base(), program.version], [server.text(), server.version])
                text = program.base()
                for delta in [sent, waiting]:
                    text = delta(text) if delta else text
                self.assertEqual(program.text(), text)
                self.assertEqual(program.is_idle, sent is None and waiting is None)

    def moved(self, delta, sent, waiting):
        """The own changes after one of the server: what it puts stands ahead of what they put."""
        if sent:
            delta, sent = delta.over(sent, first=True), sent.over(delta, first=False)
        if waiting:
            waiting = waiting.over(delta, first=False)
        return sent, waiting

    def test_no_messages(self):
        wrong = odd_values() + [["ack", 1], ("ack",), ("ack", 1, []), ("Ack", 1), ("change", 1), ["change", 1, []],
                                ("change", 1, [], 1), ("chance", 1, []), (1, "ack"), ("change", [], 1), (), "ack",
                                (["ack"], 1), (None, 1, []), (Text([]), 1), ("ann", 0, []), ("ack", None),
                                ("change", "1", [])]
        for program in self.states():
            before = state(program)
            for message in wrong:
                error = self.raised(InvalidMessage, {"value": message}, program.receive, message)
                self.assertIsNone(error.__cause__)
            self.assertEqual(state(program), before)

    def test_versions_that_are_not_the_next_one(self):
        for program in self.states() + [program_of([97, 98, 99], "chars", 5)]:
            program.edit([])
            program.send()
            before = state(program)
            for version in [program.version, program.version + 2, -1, HUGE, None, True, "1", [1], False]:
                for message in [("ack", version), ("change", version, []), ("change", version, None)]:
                    error = self.raised(InvalidMessage, {"value": message}, program.receive, message)
                    self.assertIsNone(error.__cause__)
            self.assertEqual(state(program), before)

    def test_rows_that_are_refused_for_the_base(self):
        program = Program("ann", "units", Text(SAMPLE), 0)
        program.edit([(0, 0, [65, 66])])
        program.send()
        before = state(program)
        many = [("keep", 0)] * 1301
        for rows, cause, fields in [
                (None, InvalidRows, {"value": None}), (many, InvalidRows, {"value": many}),
                ([("keep", 1), ("hold", 1)], InvalidRow, {"value": ("hold", 1)}),
                ([("keep", 2)], BadRow, {"index": 0}), ([("keep", 1), ("drop", 4)], BadRow, {"index": 1})]:
            message = ("change", 1, rows)
            error = self.raised(InvalidMessage, {"value": message}, program.receive, message)
            self.assertIs(type(error.__cause__), cause)
            self.assertEqual(vars(error.__cause__), fields)
        self.assertIs(type(error.__cause__.__cause__), BadPlace)
        self.assertEqual(state(program), before)
        program.receive(("change", 1, [("keep", 1), ("drop", 3)]))
        self.assertEqual(state(program)[4:6], [[104], [65, 66, 104]])

    def test_lists_in_messages_may_be_changed(self):
        program = program_of([97])
        put = [98]
        rows = [("put", put)]
        program.receive(("change", 1, rows))
        put.append(99)
        rows.append(("drop", 1))
        self.assertEqual(program.text().chars(), [98, 97])


class Undoing(ErrorCase):

    def test_nothing_to_undo(self):
        program = program_of([97])
        for _ in range(2):
            before = state(program)
            self.raised(NothingToUndo, {}, program.undo)
            self.assertEqual(state(program), before)
            program.receive(("change", program.version + 1, [("put", [98])]))

    def test_all_calls_one_by_one(self):
        source = random.Random(124)
        for _ in range(60):
            chars = random_chars(source, 10)
            kind = source.choice(KINDS)
            program = program_of(chars, kind)
            texts = [chars]
            for _ in range(source.randint(1, 6)):
                program.change(counted(Delta(random_rows(source, len(texts[-1]), 4)), program.text(), kind))
                texts.append(program.text().chars())
                if source.randrange(3) == 0:
                    program.send()
            for at in range(len(texts) - 1, 0, -1):
                self.assertEqual([program.text().chars(), program.undo_count], [texts[at], at])
                self.assertIsNone(program.undo())
                self.assertFalse(program.is_idle)
                if source.randrange(3) == 0 and program.send() is None:
                    program.receive(("ack", program.version + 1))
            self.assertEqual([program.text().chars(), program.undo_count], [chars, 0])
            self.raised(NothingToUndo, {}, program.undo)

    def test_an_undo_waits_like_a_change_and_is_not_taken_back_itself(self):
        program = program_of(SAMPLE, "bytes")
        program.edit([(1, 5, [33])])
        self.assertEqual(program.send(), ("ann", 0, [("keep", 1), ("put", [33]), ("drop", 4), ("keep", 3)]))
        program.undo()
        self.assertEqual(program.undo_count, 0)
        program.receive(("ack", 1))
        self.assertEqual(program.send(), ("ann", 1, [("keep", 1), ("put", [128512]), ("drop", 1), ("keep", 3)]))
        self.raised(NothingToUndo, {}, program.undo)
        program.receive(("ack", 2))
        self.assertEqual(state(program), ["ann", "bytes", 2, True, SAMPLE, SAMPLE, 0])

    def test_a_call_after_an_undo(self):
        program = program_of([97])
        program.edit([(1, 1, [98])])
        program.edit([(2, 2, [99])])
        program.undo()
        program.edit([(0, 1, [])])
        self.assertEqual([program.text().chars(), program.undo_count], [[98], 2])
        program.undo()
        self.assertEqual([program.text().chars(), program.undo_count], [[97, 98], 1])
        program.undo()
        self.assertEqual([program.text().chars(), program.undo_count], [[97], 0])

    def test_calls_of_nothing_are_taken_back_as_well(self):
        program = program_of([97])
        program.edit([(0, 0, [98])])
        program.edit([])
        program.change([])
        counts = []
        for _ in range(3):
            counts.append((program.undo_count, program.text().chars()))
            program.undo()
        self.assertEqual(counts, [(3, [98, 97]), (2, [98, 97]), (1, [98, 97])])
        self.assertEqual(program.text().chars(), [97])

    def test_changes_of_others_between_the_calls_by_hand(self):
        program = program_of([97, 98, 99])
        program.edit([(1, 2, [65])])
        program.receive(("change", 1, [("keep", 1), ("put", [66]), ("keep", 1), ("put", [67])]))
        self.assertEqual(program.text().chars(), [97, 66, 65, 67, 99])
        program.edit([(0, 1, [])])
        program.receive(("change", 2, [("keep", 5), ("put", [68])]))
        self.assertEqual(program.text().chars(), [66, 65, 67, 99, 68])
        program.undo()
        self.assertEqual(program.text().chars(), [97, 66, 65, 67, 99, 68])
        program.undo()
        # What comes back stands ahead of what others have put into the same gap.
        self.assertEqual(program.text().chars(), [97, 98, 66, 67, 99, 68])

    def test_what_others_put_stands_behind_what_comes_back_at_the_same_place(self):
        program = program_of([97, 98])
        program.edit([(0, 1, [])])
        program.receive(("change", 1, [("keep", 1), ("put", [65])]))
        self.assertEqual(program.text().chars(), [65, 98])
        program.undo()
        self.assertEqual(program.text().chars(), [97, 65, 98])

    def test_what_others_have_dropped_of_the_own_stays_dropped(self):
        program = program_of([97])
        program.edit([(0, 0, [65, 66])])
        program.send()
        program.receive(("ack", 1))
        program.receive(("change", 2, [("keep", 1), ("drop", 2)]))
        self.assertEqual(program.text().chars(), [65])
        program.undo()
        self.assertEqual(program.text().chars(), [])

    def test_what_was_dropped_twice_and_put_back_is_there_again(self):
        program = program_of([97])
        program.edit([(0, 1, [])])
        program.receive(("change", 1, [("drop", 1)]))
        self.assertEqual([program.base().chars(), program.text().chars()], [[], []])
        program.undo()
        self.assertEqual(program.text().chars(), [97])
        self.assertEqual(program.send(), ("ann", 1, [("put", [97])]))

    def test_undo_of_all_calls_leaves_what_others_have_put(self):
        source = random.Random(125)
        for _ in range(120):
            chars = distinct_chars(source, 8)
            program = program_of(chars)
            base = Text(chars)
            new = 1000
            for _ in range(8):
                if source.randrange(2):
                    # Own changes put capital letters.
                    program.change(random_rows(source, len(program.text()), 3, 65))
                else:
                    at = source.randint(0, len(base))
                    rows = [("keep", at), ("put", [new])]
                    program.receive(("change", program.version + 1, rows))
                    base = delta_from(rows, base, "chars")(base)
                    new += 1
                if source.randrange(4) == 0 and program.undo_count > 0:
                    program.undo()
            while program.undo_count:
                program.undo()
            # Nothing of one's own is left, and all that others put and that was there at first.
            self.assertEqual(sorted(program.text().chars()), sorted(base.chars()))
            self.assertEqual([char for char in program.text() if char in chars], chars)


if __name__ == "__main__":
    unittest.main()
