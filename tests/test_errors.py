"""Promises 7, 8 and 11: the exception classes."""

import inspect
import unittest

from tests.helper import odd_values
from threecounts import errors

BASES = {"PlaceError": ValueError, "MissingError": KeyError, "StateError": LookupError}

PLACE_ERRORS = """
InvalidInteger(value) InvalidChar(value) InvalidChars(value) InvalidText(value) InvalidKind(value)
MidChar(number,start,end) BadPlace(number) BadSequence(index) InvalidBytes(value) InvalidUnits(value)
InvalidDelta(value) InvalidRows(value) InvalidRow(value) BadRow(index) InvalidEdit(value) InvalidEdits(value)
Overlap(index) InvalidClaim(value) InvalidClaims(value) InvalidIndex(value) InvalidServer(value)
InvalidCompany(value) InvalidName(value) DuplicateName(label) InvalidVersion(value) InvalidMessage(value)
InvalidString(value) InvalidLine(index) InvalidCommand(value) Mismatch(value) InvalidFlag(value) InvalidCounts(value)
"""
MISSING_ERRORS = "UnknownName(label) UnknownMark(label)"
STATE_ERRORS = "NothingToDeliver(label) NothingToUndo() Closed() NoDelta()"


def listed():
    """Tuples of the name of a class, its fields and the name of its base, as the interface lists them."""
    rows = []
    for base, words in [("PlaceError", PLACE_ERRORS), ("MissingError", MISSING_ERRORS), ("StateError", STATE_ERRORS)]:
        for word in words.split():
            name, fields = word.rstrip(")").split("(")
            rows.append((name, [field for field in fields.split(",") if field], base))
    return rows


class ErrorClasses(unittest.TestCase):

    def test_the_file_holds_exactly_the_listed_classes(self):
        found = [name for name, thing in vars(errors).items() if inspect.isclass(thing)]
        self.assertEqual(sorted(found), sorted(list(BASES) + [name for name, _, _ in listed()]))
        self.assertEqual(len(listed()), 38)

    def test_bases_are_made_of_one_string(self):
        for name, above in BASES.items():
            base = getattr(errors, name)
            self.assertEqual(base.__bases__, (above,))
            for words in ["", "no such thing"]:
                error = base(words)
                self.assertEqual(error.args, (words,))
                self.assertIsInstance(error, above)

    def test_each_class_is_directly_under_one_base_only(self):
        classes = {name: getattr(errors, name) for name, _, _ in listed()}
        classes.update({name: getattr(errors, name) for name in BASES})
        for name, _, base in listed():
            with self.subTest(name):
                self.assertEqual(classes[name].__bases__, (classes[base],))
                above = [other for other in classes if other != name and issubclass(classes[name], classes[other])]
                self.assertEqual(above, [base])

    def test_bases_stand_apart(self):
        self.assertFalse(issubclass(errors.PlaceError, LookupError))
        self.assertFalse(issubclass(errors.MissingError, ValueError))
        self.assertFalse(issubclass(errors.StateError, (KeyError, IndexError, ValueError)))
        self.assertFalse(issubclass(errors.MissingError, errors.StateError))

    def test_each_class_is_caught_by_its_base_and_by_the_class_above(self):
        for name, fields, base in listed():
            for handler in [getattr(errors, name), getattr(errors, base), BASES[base]]:
                with self.subTest(name, handler=handler):
                    with self.assertRaises(handler):
                        raise getattr(errors, name)(*fields)

    def test_fields_are_the_very_objects_by_position(self):
        for name, fields, _ in listed():
            for value in odd_values():
                others = [[name], [value]]
                given = ([value] + others)[:len(fields)]
                error = getattr(errors, name)(*given)
                with self.subTest(name, value=value):
                    self.assertEqual(list(vars(error)), fields)
                    for field, thing in zip(fields, given):
                        self.assertIs(getattr(error, field), thing)

    def test_fields_are_the_very_objects_by_name(self):
        for name, fields, _ in listed():
            for value in odd_values():
                others = [[name], [value]]
                given = dict(zip(fields, [value] + others))
                backward = dict(reversed(list(given.items())))
                error = getattr(errors, name)(**backward)
                with self.subTest(name, value=value):
                    self.assertEqual(sorted(vars(error)), sorted(fields))
                    for field in fields:
                        self.assertIs(getattr(error, field), given[field])

    def test_one_argument_for_each_field(self):
        for name, fields, _ in listed():
            if not fields:
                continue
            with self.subTest(name):
                with self.assertRaises(TypeError):
                    getattr(errors, name)(*fields[1:])
                with self.assertRaises(TypeError):
                    getattr(errors, name)(*fields, 1)

    def test_an_exception_equals_only_itself(self):
        for name, fields, _ in listed():
            one, other = getattr(errors, name)(*fields), getattr(errors, name)(*fields)
            self.assertTrue(one == one)
            self.assertFalse(one == other)

    def test_lists_in_fields_are_not_copied(self):
        value = [1, [2]]
        error = errors.InvalidChars(value)
        value[1].append(3)
        self.assertIs(error.value, value)
        self.assertEqual(error.value, [1, [2, 3]])


if __name__ == "__main__":
    unittest.main()
