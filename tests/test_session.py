"""Promises 144 and 145: sessions."""

import random
import unittest

from tests.helper import KINDS, ErrorCase, counts_after, odd_values
from threecounts.company import Company
from threecounts.errors import (BadPlace, DuplicateName, InvalidCommand, MidChar, NothingToDeliver, NothingToUndo,
                                Overlap, UnknownName)
from threecounts.session import Session
from threecounts.strings import edits_string, history_string, text_string

GREATEST = 10 ** 30 - 1


def begun(*lines):
    """A session that has executed some lines."""
    session = Session()
    for line in lines:
        session.execute(line)
    return session


def state(session):
    company = session.company()
    return [session.log(), history_string(company), company.names(),
            [(company.text(name).chars(), company.base(name).chars(), company.queues(name), company.version_of(name))
             for name in company.names()]]


class SessionCase(ErrorCase):

    def answers(self, session, rows):
        """Execute lines and check their answers."""
        for line, wanted in rows:
            with self.subTest(line):
                self.assertEqual(session.execute(line), wanted)


class Commands(SessionCase):

    def test_at_first(self):
        session = Session()
        self.assertIs(type(session.company()), Company)
        self.assertEqual(session.company().server_text().chars(), [])
        self.assertEqual([session.log(), session.company().names()], [[], []])
        self.answers(session, [("text", "none"), ("names", "none"), ("quiet", "yes"), ("settle", "0"),
                               ("count bytes", "0"), ("place 0 bytes chars", "0"), ("history", "text")])

    def test_begin(self):
        session = Session()
        first = session.company()
        self.answers(session, [("begin 104 128512 8364", "ok"), ("text", "104 128512 8364"), ("count bytes", "8"),
                               ("count units", "4"), ("count chars", "3"), ("join ann bytes", "0")])
        second = session.company()
        self.assertIsNot(first, second)
        self.answers(session, [("begin", "ok"), ("text", "none"), ("names", "none"), ("begin 0", "ok"), ("text", "0"),
                               ("begin " + " ".join(["1114111"] * 490), "ok"), ("count units", "980")])
        self.assertEqual(second.names(), ["ann"])

    def test_join_and_names(self):
        session = begun("begin 97")
        self.answers(session, [("join zoe units", "0"), ("names", "zoe:units:0"), ("edit zoe 0 0 98", "ok"),
                               ("settle", "2"), ("join abcdefgh bytes", "1"), ("join text chars", "1"),
                               ("names", "zoe:units:1 abcdefgh:bytes:1 text:chars:1"), ("edit text 0 1", "ok"),
                               ("send text", "sent"), ("up text", "2"), ("down text", "ack 2"),
                               ("names", "zoe:units:1 abcdefgh:bytes:1 text:chars:2"), ("text text", "97")])

    def test_edits_messages_and_queues(self):
        session = begun("begin 104 128512 8364", "join ann bytes", "join bob units")
        self.answers(session, [
            ("send ann", "nothing"), ("edit ann 1 5 33 128513 / 8 8 10", "ok"), ("text ann", "104 33 128513 8364 10"),
            ("base ann", "104 128512 8364"), ("text", "104 128512 8364"), ("quiet", "no"), ("queues ann", "0 0"),
            ("send ann", "sent"), ("send ann", "nothing"), ("queues ann", "1 0"), ("up ann", "1"),
            ("queues ann", "0 1"), ("queues bob", "0 1"), ("text", "104 33 128513 8364 10"),
            ("down ann", "ack 1"), ("down bob", "change 1: keep 1 / put 33 128513 / drop 2 / keep 1 / put 10"),
            ("base bob", "104 33 128513 8364 10"), ("quiet", "yes"), ("edit bob 2 4", "ok"), ("edit ann 1 2", "ok"),
            ("settle", "6"), ("text", "104 8364 10"), ("text bob", "104 8364 10"), ("names", "ann:bytes:3 bob:units:3")])

    def test_messages_without_rows(self):
        session = begun("join ann bytes", "join bob chars", "edit ann 0 0", "send ann", "up ann")
        self.answers(session, [("down bob", "change 1: none"), ("down ann", "ack 1"), ("text ann", "none"),
                               ("base bob", "none"), ("history", "text / ann"), ("edit bob 0 0 65", "ok"),
                               ("settle", "3"), ("history", "text / ann / bob put 65")])

    def test_undo(self):
        session = begun("begin 97", "join ann bytes", "edit ann 0 1", "edit ann 0 0 98 99")
        self.answers(session, [("undo ann", "ok"), ("text ann", "none"), ("settle", "2"), ("undo ann", "ok"),
                               ("text ann", "97"), ("settle", "2"), ("text", "97"),
                               ("history", "text 97 / ann drop 1 / ann put 97")])
        self.raised(NothingToUndo, {}, session.execute, "undo ann")

    def test_places_in_all_kinds(self):
        chars = [104, 233, 8364, 128512]
        session = begun("begin " + " ".join([str(char) for char in chars]))
        counts = counts_after(chars)
        for kind in KINDS:
            for other in KINDS:
                for number, wanted in zip(counts[kind], counts[other]):
                    self.answers(session, [(f"place {number} {kind} {other}", str(wanted))])
        self.raised(MidChar, {"number": 2, "start": 1, "end": 3}, session.execute, "place 2 bytes units")
        self.raised(BadPlace, {"number": GREATEST}, session.execute, f"place {GREATEST} bytes units")

    def test_history(self):
        session = begun("begin 104 128512", "join ann bytes", "join bob units", "edit ann 1 5 8364 / 5 5 33", "settle",
                        "edit bob 0 1 65", "settle")
        wanted = "text 104 128512 / ann keep 1 | put 8364 33 | drop 1 / bob put 65 | drop 1 | keep 2"
        self.answers(session, [("history", wanted)])
        self.assertEqual(history_string(session.company()), wanted.replace(" / ", "\n").replace(" | ", " / "))

    def test_sixty_edits(self):
        session = begun("begin " + " ".join(["97"] * 60), "join ann chars")
        edits = [(at, at + 1, [98 + at % 3]) for at in range(60)]
        self.answers(session, [("edit ann " + edits_string(edits).replace("\n", " / "), "ok"),
                               ("text ann", " ".join([str(98 + at % 3) for at in range(60)]))])
        line = "edit ann " + " / ".join(["0 0"] * 61)
        self.raised(InvalidCommand, {"value": line}, session.execute, line)

    def test_changes_of_the_company_are_changes_of_the_session(self):
        session = begun("begin 97")
        company = session.company()
        company.join("ann", "bytes")
        company.edit("ann", [(0, 0, [65])])
        self.answers(session, [("text ann", "65 97"), ("settle", "2"), ("text", "65 97")])
        self.assertIs(session.company(), company)
        self.assertEqual(text_string(company.text("ann")), "65 97")
        self.assertEqual(session.log(), ["begin 97", "text ann", "settle", "text"])

    def test_two_sessions_do_not_touch_one_another(self):
        one, other = Session(), Session()
        begun_lines = ["begin 97", "join ann bytes", "edit ann 0 1"]
        one.execute_all(begun_lines)
        self.assertEqual([other.execute("text"), other.execute("names")], ["none", "none"])
        self.assertEqual([one.log(), other.log()], [begun_lines, ["text", "names"]])
        self.assertTrue(one == one)
        self.assertFalse(one == other)

    def test_the_same_lines_give_the_same_answers(self):
        source = random.Random(144)
        words = ["edit ann 0 0 97", "edit bob 0 0 128512", "undo ann", "send ann", "send bob", "up ann", "up bob",
                 "down ann", "down bob", "settle", "text", "history", "quiet", "queues ann", "names"]
        lines = ["begin 97 8364", "join ann bytes", "join bob units"] + [source.choice(words) for _ in range(120)]
        self.assertEqual(Session().execute_all(lines), Session().execute_all(tuple(lines)))


class Refusals(SessionCase):

    def refused(self, session, line):
        before = state(session)
        self.raised(InvalidCommand, {"value": line}, session.execute, line)
        self.assertEqual(state(session), before)

    def test_what_is_no_string_of_words(self):
        session = begun("begin 97", "join ann bytes", "edit ann 0 0 65")
        for value in odd_values():
            self.refused(session, value)
        for line in ["", " ", "text ", " text", "text  ann", "text\n", "\ntext", "text\nann", "join ann  bytes",
                     "begin  97", "begin 97 ", "begin ", "edit ann 0 0  65", "text\tann"]:
            self.refused(session, line)

    def test_what_is_no_command(self):
        session = begun("begin 97", "join ann bytes")
        for line in ["Text", "texts", "tex", "log", "company", "change ann keep 1", "none", "/", "begin / 97", "1",
                     "text ann bob", "join ann", "join ann bytes 1", "join", "undo", "undo ann ann", "send",
                     "send ann 1", "up", "down", "up ann ann", "down ann ann", "settle ann", "settle 1", "base",
                     "base ann ann", "names ann", "queues", "queues ann ann", "quiet ann", "count", "count bytes bytes",
                     "place", "place 0", "place 0 bytes", "place 0 bytes units chars", "history 0", "edit", "edit ann"]:
            self.refused(session, line)

    def test_words_of_wrong_kinds(self):
        session = begun("begin 97", "join ann bytes")
        for name in ["Ann", "ann1", "abcdefghi", "1", "-", "an_n"]:
            for line in ["join {} bytes", "undo {}", "send {}", "up {}", "down {}", "text {}", "base {}", "queues {}",
                         "edit {} 0 0"]:
                self.refused(session, line.format(name))
        for kind in ["byte", "Bytes", "1", "char", "-"]:
            for line in ["join bob {}", "count {}", "place 0 {} bytes", "place 0 bytes {}"]:
                self.refused(session, line.format(kind))
        for number in ["01", "00", "-1", "+1", "x", "1.0", "9" * 31, "-"]:
            for line in ["place {} bytes bytes", "begin {}", "begin 97 {}", "edit ann {} 9", "edit ann 0 {}",
                         "edit ann 0 0 {}"]:
                self.refused(session, line.format(number))
        for char in ["55296", "57343", "1114112"]:
            for line in ["begin {}", "begin 97 {} 97", "edit ann 0 0 {}", "edit ann 0 0 / 0 0 97 {}"]:
                self.refused(session, line.format(char))
        for edits in ["0", "1 0", "0 0 /", "/ 0 0", "0 0 / /", "0 0 / 0", "0 0 / 1 0", "0 0/0 0", "0 0 | 0 0",
                      "0 0 / / 0 0", "none"]:
            self.refused(session, "edit ann " + edits)

    def test_words_come_before_the_operation(self):
        session = begun("begin 97", "join ann bytes")
        self.refused(session, "join ann byte")
        self.refused(session, "edit bob 1 0")
        self.refused(session, "place 99 bytes byte")

    def test_exceptions_of_the_operations(self):
        session = begun("begin 128512 97", "join ann bytes", "join bob units")
        before = state(session)
        rows = [("join ann bytes", DuplicateName, "ann"), ("up ann", NothingToDeliver, "ann"),
                ("down bob", NothingToDeliver, "bob")]
        rows += [(word + " carl", UnknownName, "carl")
                 for word in ["undo", "send", "up", "down", "text", "base", "queues"]]
        rows.append(("edit carl 9 9", UnknownName, "carl"))
        for line, kind, label in rows:
            with self.assertRaises(kind) as caught:
                session.execute(line)
            self.assertEqual(vars(caught.exception), {"label": label})
        self.raised(MidChar, {"number": 2, "start": 0, "end": 4}, session.execute, "edit ann 2 2")
        self.raised(MidChar, {"number": 1, "start": 0, "end": 2}, session.execute, "edit bob 0 0 / 1 1")
        self.raised(BadPlace, {"number": 6}, session.execute, "edit ann 0 6")
        self.raised(BadPlace, {"number": GREATEST}, session.execute, f"edit ann {GREATEST} {GREATEST}")
        self.raised(Overlap, {"index": 1}, session.execute, "edit ann 0 4 / 0 4")
        self.raised(NothingToUndo, {}, session.execute, "undo ann")
        self.assertEqual(state(session), before)


class Several(SessionCase):

    def test_all_three_kinds_of_errors_between_good_lines(self):
        session = Session()
        lines = ["begin 97 128512", "up ann", "join ann bytes", "join ann bytes", "up ann", "undo ann", "nonsense",
                 "edit ann 2 2 65", "edit ann 1 1 65", None, "", ["text"], "text ann", "down bob", "settle", "text",
                 True, 5, "begin 55296", "place 3 bytes chars", "place 1 bytes chars"]
        wanted = ["ok", "error missing", "0", "error invalid", "error state", "error state", "error invalid",
                  "error invalid", "ok", "error invalid", "error invalid", "error invalid", "97 65 128512",
                  "error missing", "2", "97 65 128512", "error invalid", "error invalid", "error invalid",
                  "error invalid", "1"]
        self.assertEqual(session.execute_all(lines), wanted)
        good = [line for line, answer in zip(lines, wanted) if not answer.startswith("error")]
        self.assertEqual(session.log(), good)
        self.assertEqual(session.execute_all(tuple(lines[3:5])), ["error invalid", "error state"])
        self.assertEqual([session.execute_all([]), session.execute_all(())], [[], []])
        self.assertEqual(session.log(), good)

    def test_no_list_of_lines(self):
        session = begun("begin 97")
        before = state(session)
        for value in odd_values() + ["text", {"text": "text"}, {0: "text"}]:
            if not isinstance(value, (list, tuple)):
                self.raised(InvalidCommand, {"value": value}, session.execute_all, value)
        self.assertEqual(state(session), before)

    def test_lists_may_be_changed(self):
        session = Session()
        lines = ["begin 97", "text"]
        answers = session.execute_all(lines=lines)
        lines.append("names")
        answers.append("x")
        session.log().append("y")
        self.assertEqual(session.log(), ["begin 97", "text"])
        self.assertIsNot(session.log(), session.log())
        self.assertEqual(session.execute(line="names"), "none")

    def test_the_log_stays_behind_a_new_company(self):
        session = begun("begin 97", "join ann bytes", "begin 98", "text")
        self.assertEqual(session.log(), ["begin 97", "join ann bytes", "begin 98", "text"])
        self.assertEqual(session.execute("names"), "none")

    def test_two_hundred_lines(self):
        session = begun("begin " + " ".join(["128512"] * 120), "join ann bytes", "join bob units", "join carl chars")
        for at in range(180):
            name = ["ann", "bob", "carl"][at % 3]
            self.assertEqual(session.execute(f"edit {name} 0 0 {8364 + at} 97"), "ok")
            if at % 6 == 5:
                session.execute("settle")
        self.assertEqual(session.execute("count chars"), "480")
        self.assertEqual([session.execute("text " + name) for name in ["ann", "bob", "carl"]],
                         [session.execute("text")] * 3)
        self.assertEqual(len(session.execute("history").split(" / ")), session.company().version + 1)


if __name__ == "__main__":
    unittest.main()
