"""Promises 3 to 9 over the whole program: any values as arguments, and what refusals and changed lists leave."""

import unittest

from tests.helper import ErrorCase, odd_values
from threecounts import claims, codecs, deltas, edits, lines, places, strings, texts, validation
from threecounts.codecs import Reader
from threecounts.company import Company
from threecounts.deltas import Delta
from threecounts.drafts import Draft
from threecounts.errors import MissingError, PlaceError, StateError
from threecounts.index import Index
from threecounts.lines import Lines
from threecounts.places import Cursor, Place
from threecounts.programs import Program
from threecounts.server import Server
from threecounts.session import Session
from threecounts.texts import Text

CHARS = [104, 233, 13, 10, 8364, 128512]


def company():
    found = Company(Text(CHARS))
    found.join("ann", "bytes")
    found.join("bob", "units")
    for _ in range(2):
        found.edit("ann", [(0, 0, [65])])
        found.send("ann")
        found.deliver_up("ann")
        found.deliver_down("ann")
    found.edit("ann", [(0, 0, [66])])
    found.send("ann")
    found.edit("ann", [(0, 1, [])])
    return found


def program():
    found = Program("ann", "bytes", Text(CHARS), 3)
    found.edit([(0, 1, [])])
    return found


def server():
    found = Server(Text(CHARS))
    found.join("ann", "bytes")
    found.submit("ann", 0, [("put", [65])])
    found.set_mark("m", 1, "bytes")
    return found


def index():
    found = Index(Text(CHARS * 5))
    found.find(1, "bytes")
    return found


def draft():
    found = Draft(Text(CHARS))
    found.insert(1, [65], "bytes")
    return found


def session():
    found = Session()
    found.execute_all(["begin 97 8364", "join ann bytes", "edit ann 0 1", "send ann"])
    return found


def any_values():
    """New objects of all sorts, some of them nested six levels deep."""
    deep = [1]
    for _ in range(5):
        deep = [deep, (deep,), {"a": deep, 1: None}]
    return odd_values() + [deep, (deep, deep), {"a": deep}, [("keep", deep)], [("put", deep)], ("ack", deep),
                           ("change", 1, deep), [(0, 0, deep)], [(deep, 1, 1)], (deep, 1, 1), [[(deep, 1, 1)]],
                           company(), program(), server(), index(), draft(), session(), Lines(Text([])), [Delta([])],
                           Cursor(Text([1])), [company()], (server(), index(), draft()), "\n", "ann\n", "keep 1\nx",
                           "text", "begin " + "1 " * 9, [0] * 110, ((1, 1, 1),) * 110, {"ann": 1}, 10 ** 30 - 1,
                           [""] * 110, [("keep", 1)] * 110, [True] * 110]


# Functions, and arguments that they take.
FUNCTIONS = [
    (validation, "is_char", [1]), (validation, "is_kind", [1]), (validation, "is_name", [1]),
    (validation, "is_list", [1]), (validation, "is_chars", [1]), (validation, "parse_integer", ["1"]),
    (validation, "split_words", ["a"]), (texts, "width", [1, "bytes"]), (texts, "items", [1, "bytes"]),
    (texts, "joined", [Text([]), Text([])]), (texts, "compare", [Text([]), Text([]), "units"]),
    (codecs, "byte_list", [Text([])]), (codecs, "unit_list", [Text([])]), (codecs, "text_of_bytes", [[97]]),
    (codecs, "text_of_units", [[97]]), (codecs, "beginning", [[97], "bytes"]), (codecs, "span_at", [[97], 0, "bytes"]),
    (places, "place_at", [Text([1]), 1, "bytes"]), (places, "translated", [Text([1]), 1, "bytes", "units"]),
    (places, "is_place", [Text([1]), 1, "bytes"]), (places, "numbers", [Text([1]), "bytes"]),
    (places, "nearest", [Text([1]), 1, "bytes"]), (lines, "split_lines", [Text([])]),
    (lines, "unifying", [Text([]), [10]]), (lines, "text_width", [Text([])]),
    (deltas, "between", [Text([]), Text([])]), (deltas, "merged", [Delta([]), Delta([])]),
    (edits, "counted", [Delta([]), Text([]), "bytes"]), (edits, "delta_from", [[], Text([1]), "bytes"]),
    (edits, "together", [[], Text([1]), "bytes"]), (edits, "in_turn", [[], Text([1]), "bytes"]),
    (edits, "edits_of", [Delta([]), Text([]), "bytes"]), (edits, "recounted", [[], Text([1]), "bytes", "units"]),
    (edits, "recounted_in_turn", [[], Text([1]), "bytes", "units"]), (claims, "is_possible", [(1, 1, 1)]),
    (claims, "range_of", ["bytes"]), (claims, "text_with", [(1, 1, 1)]), (claims, "bearing", [[(1, 1, 1)]]),
    (claims, "bears", [Text([1]), [(1, 1, 1)]]), (claims, "layers_of", [[(1, 1, 1)]]),
    (claims, "layers_hold", [[(1, 1, 1)], [[(1, 1, 1)]]]), (claims, "shows_conflict", [[(1, 1, 1)], [[(1, 1, 1)]]]),
    (claims, "first_conflict", [[(1, 1, 1)]]), (claims, "possible_at", [[(1, 1, 1)], 0]),
    (strings, "text_string", [Text([])]), (strings, "delta_string", [Delta([])]), (strings, "parse_text", ["1"]),
    (strings, "parse_delta", ["keep 1"]), (strings, "edits_string", [[]]), (strings, "claims_string", [[]]),
    (strings, "parse_edits", ["0 0"]), (strings, "parse_claims", ["0 0 0"]), (strings, "parse_history", ["text"]),
    (strings, "history_string", [company()]),
]
CLASSES = [
    (Text, [[1]]), (Reader, ["bytes"]), (Place, [Text([1]), 1]), (Cursor, [Text([1]), 1]), (Lines, [Text([1])]),
    (Delta, [[("keep", 1)]]), (Draft, [Text([1])]), (Index, [Text([1])]), (Server, [Text([1])]),
    (Program, ["ann", "bytes", Text([1]), 0]), (Company, [Text([1])]),
]
# How to make an object, and the calls of its methods.
METHODS = [
    (lambda: Text(CHARS), [("count", ["bytes"]), ("part", [1, 2])]),
    (lambda: Reader("bytes"), [("feed", [[97]])]),
    (lambda: Place(Text(CHARS), 1), [("count", ["bytes"])]),
    (lambda: Cursor(Text(CHARS), 1), [("count", ["bytes"]), ("read", [2, "bytes"])]),
    (lambda: Lines(Text(CHARS)), [("line", [0]), ("ending", [0]), ("row_start", [0, "bytes"]),
                                  ("position", [1, "bytes"]), ("column_in", [0, 1, "bytes", "units"]),
                                  ("number_at", [0, 1, "bytes"])]),
    (lambda: Delta([("keep", 6)]), [("__call__", [Text(CHARS)]), ("inverted", [Text(CHARS)])]),
    (draft, [("apply", [Delta([("keep", 7)])]), ("insert", [1, [65], "bytes"]), ("drop", [1, 2, "bytes"]),
             ("replace", [1, 2, [65], "bytes"])]),
    (index, [("count", ["bytes"]), ("find", [1, "bytes"]), ("line_of", [1]), ("line_start", [1]),
             ("replace", [1, 2, [65]])]),
    (server, [("text", [0]), ("delta", [0]), ("author", [0]), ("join", ["bob", "units"]), ("kind_of", ["ann"]),
              ("submit", ["ann", 0, []]), ("missed", ["ann", 0]), ("set_mark", ["n", 1, "bytes"]),
              ("remove_mark", ["m"]), ("mark", ["m"])]),
    (program, [("edit", [[]]), ("change", [[]]), ("receive", [("change", 4, [])])]),
    (company, [("server_text", [0]), ("delta", [0]), ("author", [0]), ("join", ["carl", "bytes"]),
               ("kind_of", ["ann"]), ("text", ["ann"]), ("base", ["ann"]), ("version_of", ["ann"]), ("queues", ["ann"]),
               ("edit", ["ann", []]), ("change", ["ann", []]), ("undo", ["ann"]), ("send", ["ann"]),
               ("deliver_up", ["ann"]), ("deliver_down", ["bob"])]),
    (session, [("execute", ["text"]), ("execute_all", [["text"]])]),
]


def told(thing):
    """All that an object answers to calls without arguments, and the answers of its parts."""
    if isinstance(thing, (list, tuple)):
        return [told(item) for item in thing]
    if isinstance(thing, dict):
        return [told(item) for item in thing.items()]
    found = [type(thing).__name__]
    if isinstance(thing, Text):
        return found + thing.chars()
    if isinstance(thing, Delta):
        return found + thing.rows()
    if isinstance(thing, Company):
        return found + [thing.version, thing.names(), [told([thing.text(name), thing.base(name), thing.queues(name),
                        thing.version_of(name)]) for name in thing.names()]]
    if isinstance(thing, Server):
        return found + [thing.version, thing.names(), told(thing.text()), thing.marks()]
    if isinstance(thing, Program):
        return found + [thing.version, told(thing.text()), told(thing.base()), thing.is_idle, thing.undo_count]
    if isinstance(thing, Session):
        return found + [thing.log(), told(thing.company())]
    if isinstance(thing, Index):
        return found + [told(thing.text()), thing.blocks(), thing.looked()]
    if isinstance(thing, Draft):
        return found + [told(thing.text()), told(thing.changes()), told(thing.made())]
    if isinstance(thing, Reader):
        return found + [thing.pending(), len(thing), told(thing.text())]
    if isinstance(thing, Cursor):
        return found + [thing.count("chars")]
    return found + [repr(thing) if isinstance(thing, (int, str, Place)) or thing is None else None]


class AnyValues(ErrorCase):

    def attempt(self, call, args):
        """Call with arguments that may be wrong: only an exception of the package may come. Return whether one came."""
        try:
            call(*args)
        except (PlaceError, MissingError, StateError) as error:
            self.assertEqual(type(error).__module__, "threecounts.errors")
            return True
        return False

    def test_functions_and_classes(self):
        calls = [(getattr(module, name), args) for module, name, args in FUNCTIONS] + CLASSES
        for call, args in calls:
            for at in range(len(args)):
                for value in any_values():
                    before = told([value] + args)
                    with self.subTest(call, at=at, value=value):
                        self.attempt(call, args[:at] + [value] + args[at + 1:])
                        self.assertEqual(told([value] + args), before)

    def test_methods_and_that_a_refusal_leaves_the_object(self):
        for make, calls in METHODS:
            for name, args in calls:
                for at in range(len(args)):
                    for value in any_values():
                        thing = make()
                        before = told([thing, value, args])
                        with self.subTest(name, at=at, value=value):
                            if self.attempt(getattr(thing, name), args[:at] + [value] + args[at + 1:]):
                                self.assertEqual(told([thing, value, args]), before)

    def test_right_calls_are_not_refused(self):
        for module, name, args in FUNCTIONS:
            # range_of asks for two counts by name.
            self.assertEqual(self.attempt(getattr(module, name), args), name == "range_of", name)
        for call, args in CLASSES:
            self.assertFalse(self.attempt(call, args), call)
        for make, calls in METHODS:
            for name, args in calls:
                self.assertFalse(self.attempt(getattr(make(), name), args), name)

    def test_values_that_are_given_by_name(self):
        calls = [(claims.range_of, ["bytes"], {"in_units": 1, "in_chars": 1}),
                 (Lines(Text(CHARS)).position, [0, "bytes"], {"columns": None}),
                 (Lines(Text(CHARS)).number_at, [0, 0, "bytes"], {"clamp": True}),
                 (Delta([]).over, [Delta([])], {"first": True}),
                 (server().set_mark, ["m", 0, "bytes"], {"after": True})]
        for call, args, more in calls:
            self.assertFalse(self.attempt(lambda: call(*args, **more), []))
            for word in more:
                for value in any_values():
                    with self.subTest(call, word=word, value=value):
                        self.attempt(lambda: call(*args, **{**more, word: value}), [])

    def test_items_with_any_index(self):
        for make in [lambda: Text(CHARS), draft]:
            for value in any_values():
                self.attempt(lambda: make()[value], [])
        for value in any_values():
            self.attempt(lambda: draft().__setitem__(value, 65), [])
            self.attempt(lambda: draft().__setitem__(0, value), [])
            self.attempt(lambda: draft().__iadd__(value), [])
            self.assertIn(value in Text(CHARS), [True, False])

    def test_equality_with_any_value(self):
        made = [make() for make, _ in METHODS]
        for thing in made:
            for value in any_values():
                self.assertIs(thing == value, type(thing) is type(value) and thing == value)


class Results(ErrorCase):

    def spoil(self, thing):
        """Change all lists and dicts within a result."""
        if isinstance(thing, (list, tuple)):
            for item in thing:
                self.spoil(item)
        if isinstance(thing, dict):
            thing["spoilt"] = 1
        if isinstance(thing, list):
            thing.append("spoilt")

    def lists_in(self, thing):
        if not isinstance(thing, (list, tuple)):
            return []
        return [thing] * isinstance(thing, list) + [each for item in thing for each in self.lists_in(item)]

    def calls(self):
        """Calls that return lists or dicts, and that change nothing."""
        one, two, three, four = Text(CHARS), Delta([("put", [1]), ("keep", 6)]), server(), company()
        five, six = index(), draft()
        rows = [(1, 1, None), (None, 2, 2)]
        return [one.chars, two.rows, six.changes, five.blocks, five.looked, three.names, three.marks, four.names,
                lambda: three.missed("ann", 0), session().log, lambda: Lines(one).ending(0), Reader("bytes").pending,
                lambda: lines.text_width(one), lambda: lines.split_lines(one), lambda: places.numbers(one, "bytes"),
                lambda: texts.items(8364, "bytes"), lambda: codecs.byte_list(one), lambda: codecs.unit_list(one),
                lambda: edits.counted(two, one, "bytes"), lambda: edits.edits_of(two, one, "bytes"),
                lambda: edits.recounted([(0, 1, [65])], one, "bytes", "units"),
                lambda: edits.recounted_in_turn([(0, 1, [65])], one, "bytes", "units"),
                lambda: claims.layers_of(rows), lambda: claims.possible_at(rows, 0),
                lambda: strings.parse_edits("0 0 65\n1 1"), lambda: strings.parse_claims("1 1 1"),
                lambda: strings.parse_history("text 65\nann keep 1"), lambda: validation.split_words("a b"),
                lambda: session().execute_all(["text"])]

    def test_each_call_returns_new_lists(self):
        for call in self.calls():
            wanted = told(call())
            first, second = call(), call()
            lists = self.lists_in(first) + self.lists_in(second)
            self.assertEqual(len(set([id(thing) for thing in lists])), len(lists))
            self.spoil(first)
            self.assertEqual(told(second), wanted)
            self.assertEqual(told(call()), wanted)

    def test_results_may_be_passed_as_arguments(self):
        rows = [(None, 160, 160), (160, 160, None)]
        self.assertTrue(claims.layers_hold(rows, claims.layers_of(rows)))
        text = claims.text_with((2400, 2400, 2400))
        self.assertEqual(codecs.text_of_bytes(codecs.byte_list(text)), text)
        self.assertEqual(strings.parse_text(strings.text_string(text)), text)
        self.assertEqual(Index(text).find(2400, "bytes"), (2400, 2400, 2400))
        self.assertEqual(Draft(text).drop(0, 2400, "chars"), Text([]))


if __name__ == "__main__":
    unittest.main()
