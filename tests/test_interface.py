"""The interface: names, parameters, and the file and class in which each thing is defined."""

import ast
import importlib
import inspect
import pathlib
import unittest

PACKAGE = pathlib.Path(__file__).resolve().parent.parent / "threecounts"

FUNCTIONS = {
    "validation": ["is_integer(value, low, high)", "is_char(value)", "is_chars(value)", "is_list(value)",
                   "is_kind(value)", "is_name(value)", "parse_integer(text, *, low=0, high=999999)",
                   "split_words(text, *, separator=' ')"],
    "texts": ["width(char, kind)", "items(char, kind)", "joined(*texts)", "compare(one, other, kind)"],
    "codecs": ["byte_list(text)", "unit_list(text)", "text_of_bytes(items)", "text_of_units(items)",
               "beginning(items, kind)", "span_at(items, index, kind)"],
    "places": ["place_at(text, number, kind)", "translated(text, number, kind, other)",
               "is_place(text, number, kind)", "numbers(text, kind)",
               "nearest(text, number, kind, *, after=False)"],
    "lines": ["split_lines(text)", "unifying(text, ending)", "text_width(text)"],
    "deltas": ["between(one, other)", "merged(*deltas)"],
    "edits": ["counted(delta, text, kind)", "delta_from(rows, text, kind)", "together(edits, text, kind)",
              "in_turn(edits, text, kind)", "edits_of(delta, text, kind)", "recounted(edits, text, kind, other)",
              "recounted_in_turn(edits, text, kind, other)"],
    "claims": ["is_possible(counts)", "range_of(kind, *, in_bytes=None, in_units=None, in_chars=None)",
               "text_with(counts)", "bearing(claims)", "bears(text, claims)", "layers_of(claims)",
               "layers_hold(claims, layers)", "shows_conflict(claims, layers)", "first_conflict(claims)",
               "possible_at(claims, index)"],
    "strings": ["text_string(text)", "delta_string(delta)", "parse_text(string)", "parse_delta(string)",
                "edits_string(edits)", "claims_string(claims)", "parse_edits(string)", "parse_claims(string)",
                "history_string(company)", "parse_history(string)"],
}

METHODS = {
    ("texts", "Text"): ["__init__(self, chars)", "chars(self)", "count(self, kind)", "part(self, start, end)"],
    ("codecs", "Reader"): ["__init__(self, kind)", "feed(self, items)", "pending(self)", "text(self)", "close(self)"],
    ("places", "Place"): ["__init__(self, text, chars)", "text(self)", "count(self, kind)", "before(self)",
                          "after(self)"],
    ("places", "Cursor"): ["__init__(self, text, chars=0)", "place(self)", "count(self, kind)",
                           "read(self, number, kind)"],
    ("lines", "Lines"): ["__init__(self, text)", "line(self, row)", "ending(self, row)", "row_start(self, row, kind)",
                         "position(self, number, kind, *, columns=None)", "column_in(self, row, column, kind, other)",
                         "number_at(self, row, column, kind, *, clamp=False)"],
    ("deltas", "Delta"): ["__init__(self, rows)", "rows(self)", "__call__(self, text)", "inverted(self, text)",
                          "over(self, other, *, first)"],
    ("drafts", "Draft"): ["__init__(self, text)", "text(self)", "begun(self)", "apply(self, delta)",
                          "insert(self, number, chars, kind)", "drop(self, start, end, kind)",
                          "replace(self, start, end, chars, kind)", "changes(self)", "made(self)", "take_back(self)"],
    ("index", "Index"): ["__init__(self, text)", "text(self)", "count(self, kind)", "lines(self)", "height(self)",
                         "blocks(self)", "find(self, number, kind)", "line_of(self, chars)", "line_start(self, line)",
                         "looked(self)", "replace(self, start, end, chars)"],
    ("server", "Server"): ["__init__(self, text)", "text(self, version=None)", "delta(self, version)",
                           "author(self, version)", "join(self, name, kind)", "names(self)", "kind_of(self, name)",
                           "submit(self, name, version, rows)", "missed(self, name, version)",
                           "set_mark(self, label, number, kind, *, after=False)", "remove_mark(self, label)",
                           "mark(self, label)", "marks(self)"],
    ("programs", "Program"): ["__init__(self, name, kind, text, version)", "base(self)", "text(self)",
                              "edit(self, edits)", "change(self, rows)", "send(self)", "receive(self, message)",
                              "undo(self)"],
    ("company", "Company"): ["__init__(self, text)", "server_text(self, version=None)", "delta(self, version)",
                             "author(self, version)", "join(self, name, kind)", "names(self)", "kind_of(self, name)",
                             "text(self, name)", "base(self, name)", "version_of(self, name)", "queues(self, name)",
                             "edit(self, name, edits)", "change(self, name, rows)", "undo(self, name)",
                             "send(self, name)", "deliver_up(self, name)", "deliver_down(self, name)", "settle(self)"],
    ("session", "Session"): ["__init__(self)", "execute(self, line)", "execute_all(self, lines)", "log(self)",
                             "company(self)"],
}
OPERATORS = {
    ("texts", "Text"): ["__len__", "__getitem__", "__iter__", "__contains__", "__add__", "__radd__", "__eq__",
                        "__lt__", "__gt__"],
    ("codecs", "Reader"): ["__len__"],
    ("places", "Place"): ["__add__", "__sub__", "__eq__"],
    ("places", "Cursor"): ["__setitem__", "__iadd__", "__isub__"],
    ("lines", "Lines"): ["__len__", "__eq__"],
    ("deltas", "Delta"): ["__eq__", "__add__"],
    ("drafts", "Draft"): ["__len__", "__getitem__", "__iter__", "__setitem__", "__iadd__"],
    ("index", "Index"): ["__eq__"],
}
PROPERTIES = {
    ("texts", "Text"): ["in_bytes", "in_units", "in_chars"],
    ("codecs", "Reader"): ["missing"],
    ("places", "Place"): ["in_bytes", "in_units", "in_chars"],
    ("deltas", "Delta"): ["length_before", "length_after", "is_plain"],
    ("drafts", "Draft"): ["in_bytes", "in_units", "in_chars"],
    ("server", "Server"): ["version"],
    ("programs", "Program"): ["name", "kind", "version", "is_idle", "undo_count"],
    ("company", "Company"): ["version", "is_quiet"],
}


def module(name):
    return importlib.import_module("threecounts." + name)


def body_of(name):
    return ast.parse((PACKAGE / (name + ".py")).read_text()).body


class Interface(unittest.TestCase):

    def test_functions(self):
        for name, rows in FUNCTIONS.items():
            defined = [row.name for row in body_of(name) if isinstance(row, ast.FunctionDef)]
            for row in rows:
                with self.subTest(row):
                    word = row.split("(")[0]
                    self.assertIn(word, defined)
                    self.assertEqual(word + str(inspect.signature(getattr(module(name), word))), row)

    def test_methods(self):
        for (name, label), rows in METHODS.items():
            defined = [row.name for row in body_of(name) if isinstance(row, ast.ClassDef)]
            self.assertIn(label, defined)
            own = vars(getattr(module(name), label))
            for row in rows:
                with self.subTest(row):
                    word = row.split("(")[0]
                    self.assertEqual(word + str(inspect.signature(own[word])), row)

    def test_operators_and_properties(self):
        for (name, label), words in OPERATORS.items():
            own = vars(getattr(module(name), label))
            for word in words:
                self.assertTrue(inspect.isfunction(own[word]), word)
        for (name, label), words in PROPERTIES.items():
            own = vars(getattr(module(name), label))
            for word in words:
                self.assertIsInstance(own[word], property)


if __name__ == "__main__":
    unittest.main()
