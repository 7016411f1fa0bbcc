"""Promises 131 to 133, and what promise 9 guarantees of companies."""

import random
import unittest

from tests.helper import KINDS, NO_KINDS, ErrorCase, counts_after, is_plain_integer, no_texts, odd_values
from tests.oracles import random_rows
from threecounts.company import Company
from threecounts.deltas import Delta
from threecounts.edits import counted, edits_of, together
from threecounts.errors import (BadRow, DuplicateName, InvalidEdit, InvalidEdits, InvalidKind, InvalidName, InvalidRow,
                                InvalidRows, InvalidText, InvalidVersion, MidChar, NothingToDeliver, NothingToUndo,
                                Overlap, UnknownName)
from threecounts.server import Server
from threecounts.texts import Text

SAMPLE = [104, 128512, 8364]
NAMES = ["ann", "bob", "carl", "dora"]
NO_NAMES = ["", "A", "ann1", "an n", "abcdefghi", "ann\n", None, True, 0, ["ann"], ("ann",), {}, Text([97])]


def state(company):
    """All that a company answers."""
    return [company.version, [company.server_text(at).chars() for at in range(company.version + 1)],
            [company.delta(at).rows() for at in range(company.version)],
            [company.author(at) for at in range(company.version)], company.names(), company.is_quiet,
            [(company.kind_of(name), company.text(name).chars(), company.base(name).chars(), company.version_of(name),
              company.queues(name)) for name in company.names()]]


def company_of(chars, kinds=tuple(KINDS)):
    company = Company(Text(chars))
    for name, kind in zip(NAMES, kinds):
        company.join(name, kind)
    return company


class WhatACompanyTells(ErrorCase):

    def test_without_programs(self):
        for chars in [[], SAMPLE, [128512] * 600]:
            company = Company(text=Text(chars))
            self.assertEqual(state(company), [0, [chars], [], [], [], True, []])
            self.assertEqual(company.server_text().chars(), chars)
            self.assertIs(type(company.server_text()), Text)
            self.assertEqual([company.settle(), company.is_quiet], [0, True])

    def test_no_text(self):
        for value in no_texts():
            self.raised(InvalidText, {"value": value}, Company, value)

    def test_a_company_equals_only_itself(self):
        text = Text(SAMPLE)
        company = Company(text)
        self.assertTrue(company == company)
        self.assertFalse(company == Company(text))
        self.assertEqual(repr(company), repr(company))

    def test_joining_at_the_beginning_and_later(self):
        company = Company(Text([97]))
        self.assertEqual(company.join("ann", "bytes"), 0)
        company.edit("ann", [(1, 1, [128512])])
        company.send("ann")
        self.assertEqual(company.join(kind="units", name="zoe"), 0)
        company.deliver_up("ann")
        self.assertEqual(company.join("bob", "chars"), 1)
        self.assertEqual(company.names(), ["ann", "zoe", "bob"])
        self.assertEqual([company.queues(name) for name in company.names()], [(0, 1), (0, 1), (0, 0)])
        self.assertEqual([company.version_of(name) for name in company.names()], [0, 0, 1])
        self.assertEqual([company.text(name).chars() for name in company.names()],
                         [[97, 128512], [97], [97, 128512]])
        self.assertEqual([company.base(name).chars() for name in company.names()], [[97], [97], [97, 128512]])
        self.assertEqual([company.kind_of(name) for name in company.names()], ["bytes", "units", "chars"])
        self.assertEqual(company.settle(), 2)
        self.assertEqual([company.version_of(name=name) for name in company.names()], [1, 1, 1])
        company.names().append("x")
        self.assertEqual(company.names(), ["ann", "zoe", "bob"])

    def test_what_the_server_tells(self):
        company, server = company_of([97, 8364]), Server(Text([97, 8364]))
        for name, kind in zip(NAMES, KINDS):
            server.join(name, kind)
        for name, rows in [("bob", [("put", [128512])]), ("ann", [("drop", 4)]), ("bob", [])]:
            company.change(name=name, rows=rows)
            self.assertIs(company.send(name=name), True)
            company.deliver_up(name=name)
            server.submit(name, company.version_of(name), rows)
            company.settle()
        self.assertEqual(company.version, server.version)
        for version in range(4):
            self.assertEqual(company.server_text(version=version), server.text(version))
        for version in range(3):
            self.assertEqual(company.delta(version=version), server.delta(version))
            self.assertEqual(company.author(version=version), server.author(version))
        self.assertEqual([company.server_text(), company.server_text(None)], [server.text()] * 2)


class Calls(ErrorCase):

    def test_queues_and_messages(self):
        company = company_of(SAMPLE)
        for name in NAMES[:3]:
            self.assertEqual(company.queues(name), (0, 0))
            self.assertIs(company.send(name), False)
        self.assertIsNone(company.edit(edits=[(1, 5, [33])], name="ann"))
        self.assertFalse(company.is_quiet)
        self.assertIs(company.send("ann"), True)
        self.assertIs(company.send("ann"), False)
        self.assertEqual(company.queues(name="ann"), (1, 0))
        self.assertIsNone(company.change("bob", [("keep", 3), ("put", [10])]))
        self.assertIs(company.send("bob"), True)
        self.assertEqual(company.deliver_up("ann"), 1)
        self.assertEqual([company.queues(name) for name in NAMES[:3]], [(0, 1), (1, 1), (0, 1)])
        self.assertEqual(company.deliver_up("bob"), 2)
        self.assertEqual([company.queues(name) for name in NAMES[:3]], [(0, 2), (0, 2), (0, 2)])
        first = [("keep", 1), ("put", [33]), ("drop", 1), ("keep", 1)]
        self.assertEqual(company.deliver_down(name="carl"), ("change", 1, first))
        self.assertEqual(company.deliver_down("carl"), ("change", 2, [("keep", 2), ("put", [10]), ("keep", 1)]))
        self.assertEqual(company.deliver_down("ann"), ("ack", 1))
        self.assertEqual(company.deliver_down("ann"), ("change", 2, [("keep", 2), ("put", [10]), ("keep", 3)]))
        self.assertEqual(company.deliver_down("bob"),
                         ("change", 1, [("keep", 1), ("put", [33]), ("drop", 2), ("keep", 1)]))
        self.assertFalse(company.is_quiet)
        self.assertEqual(company.deliver_down("bob"), ("ack", 2))
        self.assertTrue(company.is_quiet)
        for name in NAMES[:3]:
            self.assertEqual([company.text(name).chars(), company.version_of(name)], [[104, 33, 10, 8364], 2])

    def test_is_quiet_only_if_nothing_waits_anywhere(self):
        company = company_of([97], ["bytes"])
        steps = [company.is_quiet]
        for call in [lambda: company.edit("ann", []), lambda: company.send("ann"), lambda: company.deliver_up("ann"),
                     lambda: company.deliver_down("ann")]:
            call()
            steps.append(company.is_quiet)
        self.assertEqual(steps, [True, False, False, False, True])
        company = company_of([97], ["bytes", "units"])
        company.change("ann", [])
        company.send("ann")
        company.deliver_up("ann")
        company.deliver_down("ann")
        self.assertFalse(company.is_quiet)
        company.deliver_down("bob")
        self.assertTrue(company.is_quiet)

    def test_undo(self):
        company = company_of([97, 8364])
        company.edit("ann", [(1, 4, [])])
        company.edit("bob", [(1, 1, [65])])
        company.settle()
        self.assertEqual(company.text("ann").chars(), [97, 65])
        self.assertIsNone(company.undo(name="ann"))
        self.assertEqual(company.text("ann").chars(), [97, 8364, 65])
        company.settle()
        self.assertEqual(company.server_text().chars(), [97, 8364, 65])
        self.raised(NothingToUndo, {}, company.undo, "ann")

    def test_messages_that_are_returned_may_be_changed(self):
        company = company_of([97])
        put, new = [98], [99]
        rows, edits = [("put", put)], [(0, 0, new)]
        company.change("ann", rows)
        company.edit("bob", edits)
        for thing in [put, new, rows, edits]:
            thing.append(120)
        for name in ["ann", "bob"]:
            company.send(name)
            company.deliver_up(name)
        before = state(company)
        message = company.deliver_down("carl")
        message[2][0][1].append(120)
        message[2].append(1)
        self.assertEqual(state(company)[:6], before[:6])
        self.assertEqual(company.text("carl").chars(), [98, 97])
        company.settle()
        self.assertEqual([company.text(name).chars() for name in NAMES[:3]], [[98, 99, 97]] * 3)

    def test_unknown_names_come_first(self):
        company = company_of(SAMPLE)
        before = state(company)
        for name in NO_NAMES + odd_values() + ["dora"]:
            fields = {"label": name}
            for call in [company.kind_of, company.text, company.base, company.version_of, company.queues, company.undo,
                         company.send, company.deliver_up, company.deliver_down]:
                self.raised(UnknownName, fields, call, name)
            self.raised(UnknownName, fields, company.edit, name, None)
            self.raised(UnknownName, fields, company.change, name, None)
        self.assertEqual(state(company), before)

    def test_refusals_of_join(self):
        company = company_of(SAMPLE)
        before = state(company)
        for name in NO_NAMES:
            self.raised(InvalidName, {"value": name}, company.join, name, "x")
        for name in NAMES[:3]:
            self.raised(DuplicateName, {"label": name}, company.join, name, "x")
        for kind in NO_KINDS:
            self.raised(InvalidKind, {"value": kind}, company.join, "dora", kind)
        self.assertEqual(state(company), before)
        company.join("dora", "units")
        self.assertEqual(company.queues("dora"), (0, 0))

    def test_versions_that_are_none(self):
        company = company_of(SAMPLE)
        for _ in range(2):
            newest = company.version
            for value in [-1, newest + 1] + [value for value in odd_values() if not is_plain_integer(value)]:
                if value is not None:
                    self.raised(InvalidVersion, {"value": value}, company.server_text, value)
                self.raised(InvalidVersion, {"value": value}, company.delta, value)
                self.raised(InvalidVersion, {"value": value}, company.author, value)
            self.raised(InvalidVersion, {"value": newest}, company.delta, newest)
            self.raised(InvalidVersion, {"value": newest}, company.author, newest)
            company.edit("ann", [])
            company.settle()

    def test_what_the_programs_refuse(self):
        company = company_of(SAMPLE)
        company.edit("ann", [(0, 0, [65])])
        company.send("ann")
        before = state(company)
        for value in [None, {}, "x", 5]:
            self.raised(InvalidEdits, {"value": value}, company.edit, "bob", value)
            self.raised(InvalidRows, {"value": value}, company.change, "bob", value)
            self.raised(InvalidEdit, {"value": value}, company.edit, "bob", [value])
            self.raised(InvalidRow, {"value": value}, company.change, "bob", [value])
        self.raised(MidChar, {"number": 2, "start": 1, "end": 3}, company.edit, "bob", [(2, 2, [])])
        self.raised(Overlap, {"index": 1}, company.edit, "bob", [(0, 1, []), (0, 1, [])])
        self.raised(BadRow, {"index": 0}, company.change, "bob", [("keep", 2)])
        self.raised(NothingToUndo, {}, company.undo, "bob")
        for name in ["bob", "carl"]:
            self.raised(NothingToDeliver, {"label": name}, company.deliver_up, name)
        for name in NAMES[:3]:
            self.raised(NothingToDeliver, {"label": name}, company.deliver_down, name)
        self.assertEqual(state(company), before)


class Run:
    """A company in which everyone puts characters of its own, and what there must be in the end."""

    def __init__(self, case, source, chars, kinds):
        self.case = case
        self.source = source
        self.company = company_of(chars, kinds)
        self.alive = {char: True for char in chars}
        self.newest = 1000
        self.sent = 0
        self.delivered = 0

    def step(self):
        name = self.source.choice(self.company.names())
        word = self.source.choice(["edit", "change", "send", "send", "up", "up", "down", "down", "down"])
        up, down = self.company.queues(name)
        if word in ("edit", "change"):
            self.change(name, word)
        elif word == "send":
            self.sent += self.company.send(name)
        elif word == "up" and up:
            self.case.assertEqual(self.company.deliver_up(name), self.company.version)
            self.delivered += 1
        elif word == "down" and down:
            self.company.deliver_down(name)
            self.delivered += 1
        self.check()

    def change(self, name, word):
        text = self.company.text(name)
        rows = []
        at = 0
        while at < len(text) or self.source.randrange(2):
            what = self.source.choice(["keep", "drop", "put", "keep"])
            if what == "put":
                rows.append((what, [self.newest]))
                self.alive[self.newest] = True
                self.newest += self.source.choice([1, 40000, 1]) if self.newest < 50000 else 1
                continue
            size = self.source.randint(0, len(text) - at)
            if what == "drop":
                size = min(size, 2)
                for char in text.chars()[at:at + size]:
                    self.alive[char] = False
            rows.append((what, size))
            at += size
        delta, kind = Delta(rows), self.company.kind_of(name)
        if word == "edit" and len(edits_of(delta, text, kind)) <= 60:
            self.company.edit(name, edits_of(delta, text, kind))
        else:
            self.company.change(name, counted(delta, text, kind))
        self.case.assertEqual(self.company.text(name), delta(text))

    def check(self):
        """At every moment a program's base is the text of the version that it knows."""
        company = self.company
        for name in company.names():
            self.case.assertEqual(company.base(name), company.server_text(company.version_of(name)))
        for version in range(company.version):
            delta = company.delta(version)
            self.case.assertEqual(delta(company.server_text(version)), company.server_text(version + 1))
        idle = all([company.text(name) == company.base(name) for name in company.names()])
        empty = all([company.queues(name) == (0, 0) for name in company.names()])
        self.case.assertTrue(empty and idle or not company.is_quiet)

    def finish(self):
        company = self.company
        self.delivered += company.settle()
        self.case.assertTrue(company.is_quiet)
        for name in company.names():
            self.case.assertEqual([company.text(name), company.base(name)], [company.server_text()] * 2)
            self.case.assertEqual([company.version_of(name), company.queues(name)], [company.version, (0, 0)])
        # One message up and one down to each program for every version.
        self.case.assertEqual(self.delivered, company.version * (1 + len(company.names())))
        self.case.assertEqual(sorted(company.server_text().chars()),
                              sorted([char for char, is_there in self.alive.items() if is_there]))
        self.case.assertEqual(company.settle(), 0)


class Settling(ErrorCase):

    def test_many_orders(self):
        source = random.Random(133)
        for many in [1, 2, 3, 4]:
            for _ in range(25):
                chars = [200 + at for at in range(source.randint(0, 8))]
                run = Run(self, source, chars, [source.choice(KINDS) for _ in range(many)])
                for _ in range(source.randint(0, 30)):
                    run.step()
                run.finish()

    def test_rounds_in_the_order_of_the_names(self):
        company = company_of([97], ["chars", "bytes", "units", "chars"])
        for name, char in [("dora", 68), ("carl", 67), ("ann", 65), ("bob", 66)]:
            company.edit(name, [(1, 1, [char])])
        company.send("carl")
        company.edit("carl", [(0, 0, [99])])
        company.send("dora")
        company.deliver_up("dora")
        # Three versions of the first round and one of the second; five messages for each, one of which was delivered.
        self.assertEqual(company.settle(), 24)
        self.assertEqual([company.author(version) for version in range(company.version)],
                         ["dora", "ann", "bob", "carl", "carl"])
        self.assertEqual(company.server_text().chars(), [99, 97, 68, 65, 66, 67])

    def test_two_companies_do_not_touch_one_another(self):
        text = Text([97])
        one, other = Company(text), Company(text)
        one.join("ann", "bytes")
        other.join("bob", "units")
        one.edit("ann", [(0, 0, [65])])
        before = state(other)
        one.settle()
        self.assertEqual(state(other), before)
        self.assertEqual([one.names(), other.names()], [["ann"], ["bob"]])

    def test_the_same_calls_give_the_same_results(self):
        wanted = None
        for _ in range(3):
            source = random.Random(134)
            run = Run(self, source, [200, 201], KINDS)
            for _ in range(40):
                run.step()
            run.company.settle()
            if wanted is None:
                wanted = state(run.company)
            self.assertEqual(state(run.company), wanted)

    def test_the_same_edits_counted_in_any_kind(self):
        source = random.Random(135)
        for _ in range(15):
            chars = [97, 128512, 8364, 233]
            companies = [company_of(chars, kinds) for kinds in [("bytes",) * 3, ("units",) * 3, ("chars",) * 3,
                                                                ("units", "bytes", "chars")]]
            for _ in range(25):
                self.same_step(source, companies)
            for company in companies:
                company.settle()
                self.assertEqual(state(company)[:4], state(companies[0])[:4])

    def same_step(self, source, companies):
        name = source.choice(NAMES[:3])
        word = source.choice(["edit", "change", "undo", "send", "up", "down", "down"])
        delta = Delta(random_rows(source, len(companies[0].text(name)), 3, 128500))
        counts = set()
        for company in companies:
            kind, text = company.kind_of(name), company.text(name)
            up, down = company.queues(name)
            if word == "edit":
                company.edit(name, edits_of(delta, text, kind))
            elif word == "change":
                company.change(name, counted(delta, text, kind))
            elif word == "send":
                company.send(name)
            elif word == "up" and up:
                company.deliver_up(name)
            elif word == "down" and down:
                company.deliver_down(name)
            elif word == "undo":
                try:
                    company.undo(name)
                except NothingToUndo:
                    pass
            counts.add((company.queues(name), company.version, company.version_of(name),
                        tuple(company.text(name).chars())))
        self.assertEqual(len(counts), 1)


class Bounds(ErrorCase):

    def test_a_long_text_and_many_calls(self):
        source = random.Random(136)
        company = company_of([128512] * 120, KINDS)
        for at in range(100):
            name = NAMES[at % 3]
            text, kind = company.text(name), company.kind_of(name)
            size = 14 if at < 34 else 0
            place = counts_after(text.chars())[kind][source.randint(0, len(text))]
            company.edit(name, [(place, place, [8364 + at] * size)])
            if at % 10 == 9:
                company.send(name)
            if at % 25 == 24:
                company.settle()
        self.assertEqual(len(company.server_text()), 120 + 34 * 14)
        for name in NAMES[:3]:
            for _ in range(33):
                company.undo(name)
        company.settle()
        company.undo("ann")
        company.settle()
        self.assertEqual(company.text("carl").chars(), [128512] * 120)

    def test_sixty_edits_and_600_characters(self):
        company = company_of([97] * 120, ["units", "bytes"])
        edits = [(2 * at, 2 * at + 1, [65536 + at] * 9) for at in range(60)]
        company.edit("ann", edits)
        wanted = together(edits, Text([97] * 120), "units")(Text([97] * 120))
        self.assertEqual([company.text("ann"), len(wanted)], [wanted, 600])
        company.settle()
        self.assertEqual(company.text("bob"), wanted)
        company.edit("bob", [(0, wanted.in_bytes, [])])
        company.settle()
        self.assertEqual(company.text("ann").chars(), [])
        company.edit("bob", [(0, 0, [128512] * 600)])
        company.settle()
        self.assertEqual(company.text("ann").in_bytes, 2400)


if __name__ == "__main__":
    unittest.main()
