"""Promises 101 to 104: rows of counts without a text."""

import itertools
import random
import time
import unittest

from tests.helper import KINDS, NO_KINDS, ErrorCase, counts_after, is_plain_integer, no_texts, odd_values
from threecounts.claims import (bearing, bears, first_conflict, is_possible, layers_hold, layers_of, possible_at,
                                range_of, shows_conflict, text_with)
from threecounts.errors import InvalidClaim, InvalidClaims, InvalidCounts, InvalidInteger, InvalidKind, InvalidText
from threecounts.texts import Text

# Characters with one byte, two, three and four, and what each adds to the three counts.
ONE_OF_EACH = [97, 233, 8364, 128512]
STEPS = [(1, 1, 1), (2, 1, 1), (3, 1, 1), (4, 2, 1)]
NAMES = ["in_bytes", "in_units", "in_chars"]
HUGE = 10 ** 30
TAKERS = [bearing, layers_of, first_conflict]


def plus(one, other):
    return tuple([left + right for left, right in zip(one, other)])


def all_counts(most):
    """All counts of texts of at most so many characters, found by putting one character behind another."""
    found = {(0, 0, 0)}
    newest = found
    for _ in range(most):
        newest = {plus(counts, step) for counts in newest for step in STEPS}
        found = found | newest
    return found


SMALL = all_counts(8)


def agrees(counts, row):
    return all([known is None or known == number for known, number in zip(row, counts)])


def chains(claims):
    """All lists of counts, one for each row, that places of a text can have: by steps of single characters.

    Only for claims whose numbers are small enough.
    """
    found = [[]]
    for row in claims:
        longer = []
        for chain in found:
            before = chain[-1] if chain else (0, 0, 0)
            longer += [chain + [plus(before, counts)] for counts in SMALL if agrees(plus(before, counts), row)]
        found = longer
    return found


def random_claims(source, many, most=6):
    """Claims with small numbers, of which some text often bears all or most."""
    claims = []
    now = (0, 0, 0)
    for _ in range(source.randint(0, many)):
        for _ in range(source.randint(0, 2)):
            if now[2] < most:
                now = plus(now, source.choice(STEPS))
        row = list(now)
        if source.randrange(4) == 0:
            at = source.randrange(3)
            row[at] = max(0, row[at] + source.choice([-1, 1]))
        if source.randrange(3):
            row[source.randrange(3)] = None
        claims.append(tuple(row))
    return claims


class Counts(ErrorCase):

    def test_all_small_counts(self):
        known = all_counts(12)
        for counts in itertools.product(range(25), range(13), range(13)):
            self.assertIs(is_possible(counts), counts in known)

    def test_great_counts(self):
        for counts, wanted in [((2400, 2400, 2400), True), ((2400, 1200, 600), True), ((2400, 800, 800), True),
                               ((2400, 1201, 600), False), ((2399, 1200, 600), False), ((2400, 799, 799), False),
                               ((2401, 2401, 2401), False), ((2400, 2400, 2401), False), ((2401, 1201, 601), False),
                               ((HUGE, HUGE, HUGE), False), ((2400, 2401, 2400), False)]:
            self.assertIs(is_possible(counts), wanted)

    def test_what_is_no_such_tuple(self):
        for value in odd_values() + [[1, 1, 1], [0, 0, 0], (1, 1), (1, 1, 1, 1), (True, 1, 1), (1, True, 1),
                                     (1, 1, True), (False, 0, 0), (0, 0, False), (None, 1, 1), ("1", 1, 1), (-1, 0, 0),
                                     (0, -1, -1), ((1, 1, 1),), "111", (1, 1, [1]), {0: 1, 1: 1, 2: 1}]:
            self.assertIs(is_possible(value), False)
            self.raised(InvalidCounts, {"value": value}, text_with, value)

    def test_texts_with_counts(self):
        source = random.Random(101)
        sample = [(2400, 2400, 2400), (2400, 1200, 600), (2400, 800, 800), (0, 0, 0), (2400, 1600, 1500)]
        sample += list(SMALL)
        while len(sample) < 600:
            counts = tuple([source.randint(0, 2400) for _ in range(3)])
            if is_possible(counts):
                sample.append(counts)
        for counts in sample:
            text = text_with(counts)
            self.assertIs(type(text), Text)
            self.assertEqual((text.in_bytes, text.in_units, text.in_chars), counts)

    def test_texts_without(self):
        for counts in itertools.product(range(8), range(5), range(5)):
            if counts not in SMALL:
                self.raised(InvalidCounts, {"value": counts}, text_with, counts)


class Ranges(ErrorCase):

    def test_all_small_ranges(self):
        known = all_counts(10)
        for at, kind in enumerate(KINDS):
            for others in itertools.product(range(11), repeat=2):
                row = list(others[:at]) + [None] + list(others[at:])
                fitting = sorted([counts[at] for counts in known if agrees(counts, row)])
                wanted = (fitting[0], fitting[-1]) if fitting else None
                self.assertEqual(range_of(kind, **dict(zip(NAMES, row))), wanted)
                if wanted:
                    self.assertEqual(fitting, list(range(wanted[0], wanted[1] + 1)))

    def test_great_ranges(self):
        self.assertEqual(range_of("bytes", in_units=480, in_chars=480), (480, 1440))
        self.assertEqual(range_of("bytes", in_units=480, in_chars=240), (960, 960))
        self.assertEqual(range_of("units", in_bytes=480, in_chars=480), (480, 480))
        self.assertEqual(range_of("units", in_bytes=480, in_chars=200), (200, 293))
        self.assertEqual(range_of("chars", in_bytes=480, in_units=480), (480, 480))
        self.assertEqual(range_of("chars", in_bytes=480, in_units=240), (120, 240))
        self.assertIsNone(range_of("chars", in_bytes=480, in_units=159))
        self.assertIsNone(range_of("units", in_bytes=480, in_chars=0))

    def test_the_edges_of_random_ranges(self):
        source = random.Random(102)
        for _ in range(300):
            counts = tuple([source.randint(0, 480) for _ in range(3)])
            for at, kind in enumerate(KINDS):
                given = {name: number for name, number in zip(NAMES, counts) if name != NAMES[at]}
                found = range_of(kind, **given)
                fitting = [number for number in range(0, 1500)
                           if is_possible(counts[:at] + (number,) + counts[at + 1:])]
                self.assertEqual(found, (fitting[0], fitting[-1]) if fitting else None)

    def test_refusals_in_their_order(self):
        for kind in NO_KINDS:
            self.raised(InvalidKind, {"value": kind}, range_of, kind)
            self.raised(InvalidKind, {"value": kind}, range_of, kind, in_bytes="x", in_units=1, in_chars=-1)
        wrong = [-1, 481, HUGE, -HUGE] + [value for value in odd_values() if not is_plain_integer(value)]
        for at, kind in enumerate(KINDS):
            for place in range(3):
                for value in wrong if place != at else odd_values():
                    if place == at and value is None:
                        continue
                    given = [None if other == at else 5 for other in range(3)]
                    given[place] = value
                    self.raised(InvalidInteger, {"value": value}, range_of, kind, **dict(zip(NAMES, given)))
                    # The first of several is told.
                    given[place + 1:] = [["later"] for _ in given[place + 1:]]
                    self.raised(InvalidInteger, {"value": value}, range_of, kind, **dict(zip(NAMES, given)))
            self.raised(InvalidInteger, {"value": None}, range_of, kind)


class Claims(ErrorCase):

    def test_no_claims(self):
        for claims in [[], ()]:
            self.assertEqual(bearing(claims), Text([]))
            self.assertEqual([layers_of(claims), first_conflict(claims)], [[], None])
            for chars in [[], ONE_OF_EACH]:
                self.assertIs(bears(Text(chars), claims), True)
            for layers in [[], ()]:
                self.assertIs(layers_hold(claims, layers), True)
                self.assertIs(shows_conflict(claims, layers), False)
            self.assertIs(layers_hold(claims, [[]]), False)
            self.raised(InvalidInteger, {"value": 0}, possible_at, claims, 0)

    def test_one_row(self):
        for counts in itertools.product([None] + list(range(6)), repeat=3):
            if counts.count(None) < 2:
                wanted = sorted([known for known in SMALL if agrees(known, counts)])
                self.assertEqual(layers_of([counts]), [wanted])
                self.assertEqual(possible_at([counts], 0), wanted)
                self.assertEqual(first_conflict([counts]), None if wanted else 1)
                self.check_bearing([counts], wanted != [])

    def check_bearing(self, claims, is_borne):
        text = bearing(claims)
        if not is_borne:
            self.assertIsNone(text)
            return
        self.assertIs(type(text), Text)
        self.assertIs(bears(text, claims), True)
        self.assertTrue(agrees((text.in_bytes, text.in_units, text.in_chars), claims[-1]))

    def test_random_claims_against_all_chains(self):
        source = random.Random(103)
        borne = 0
        for _ in range(150):
            claims = random_claims(source, 4, 4)
            if not claims:
                continue
            found = chains(claims)
            borne += found != []
            self.check_bearing(claims, found != [])
            layers = [sorted(set([chain[-1] for chain in chains(claims[:at + 1])])) for at in range(len(claims))]
            self.assertEqual(layers_of(claims), layers)
            conflicts = [at + 1 for at, layer in enumerate(layers) if layer == []]
            self.assertEqual(first_conflict(claims), conflicts[0] if conflicts else None)
            self.assertIs(layers_hold(claims, layers), True)
            self.assertIs(shows_conflict(claims, layers), conflicts != [])
            for at in range(len(claims)):
                self.assertEqual(possible_at(claims, at), sorted(set([chain[at] for chain in found])))
        self.assertTrue(30 < borne < 140)

    def test_what_texts_bear(self):
        source = random.Random(104)
        for _ in range(200):
            chars = [source.choice(ONE_OF_EACH) for _ in range(source.randint(0, 5))]
            places = list(zip(*[counts_after(chars)[kind] for kind in KINDS]))
            claims = random_claims(source, 3, 5)
            wanted = any([all([agrees(places[at], row) for at, row in zip(chosen, claims)])
                          for chosen in itertools.combinations_with_replacement(range(len(places)), len(claims))])
            self.assertIs(bears(Text(chars), claims), wanted)
            self.assertIs(bears(Text(chars), tuple(claims)), wanted)

    def test_rows_at_the_same_place_and_in_a_wrong_order(self):
        text = Text([97, 8364])
        self.assertTrue(bears(text, [(1, 1, 1), (1, None, 1), (None, 1, 1), (4, 2, 2), (4, 2, None)]))
        self.assertFalse(bears(text, [(4, 2, 2), (1, 1, 1)]))
        self.assertFalse(bears(text, [(2, 2, None)]))
        self.assertIsNone(bearing([(4, 2, 2), (1, 1, 1)]))
        self.assertEqual(first_conflict([(4, 2, 2), (4, None, 2), (1, 1, 1), (9, 9, 9)]), 3)
        self.assertEqual(layers_of([(4, 2, 2), (1, 1, 1), (9, 9, 9)]), [[(4, 2, 2)], [], []])
        self.assertEqual(possible_at([(4, 2, 2), (1, 1, 1)], 0), [])

    def test_twelve_rows_in_each_column(self):
        source = random.Random(105)
        for missing in [0, 1, 2, None]:
            now = (0, 0, 0)
            claims = []
            for _ in range(12):
                for _ in range(4):
                    now = plus(now, source.choice(STEPS[:3] if source.randrange(2) else STEPS))
                claims.append(tuple([None if at == missing else number for at, number in enumerate(now)]))
            self.check_bearing(claims, True)
            self.assertIsNone(first_conflict(claims))
            layers = layers_of(claims)
            self.assertTrue(layers_hold(claims, layers))
            self.assertFalse(shows_conflict(claims, layers))
            for at in range(12):
                found = possible_at(claims, at)
                self.assertTrue(0 < len(found) <= len(layers[at]))
                self.assertTrue(all([counts in layers[at] for counts in found]))
                self.assertEqual(found, sorted(found))
            last = list(claims[-1])
            known = [at for at in range(3) if at != missing][-1]
            last[known] = last[known] - 60 if last[known] >= 60 else 0
            claims[-1] = tuple(last)
            self.assertEqual(first_conflict(claims), 12)
            self.check_bearing(claims, False)
            self.assertTrue(shows_conflict(claims, layers_of(claims)))

    def test_the_greatest_numbers(self):
        for row in [(None, 160, 160), (160, None, 160), (160, 160, None), (160, 160, 160), (None, 160, 80)]:
            self.check_bearing([row] * 12, True)
            self.assertEqual(possible_at([row] * 12, 11), layers_of([row] * 12)[11])
        self.assertEqual(len(layers_of([(None, 160, 160)])[0]), 321)
        begun = time.process_time()
        first_conflict([(None, 80, 80)] + [(None, 160, 160)] * 11)
        self.assertLess(time.process_time() - begun, 20)


class Layers(ErrorCase):

    CLAIMS = [(5, 3, None), (None, 5, 4), (12, None, 5)]

    def test_too_great_layers_hold_too(self):
        layers = layers_of(self.CLAIMS)
        for at in range(3):
            for more in [(0, 0, 0), (1, 1, 1), (2400, 800, 800), layers[at][0]]:
                greater = [list(layer) for layer in layers]
                greater[at].insert(0, more)
                self.assertEqual(layers_hold(self.CLAIMS, greater), at == 2 or self.is_closed(greater))
        everything = [sorted(all_counts(8)) for _ in range(3)]
        self.assertTrue(layers_hold(self.CLAIMS, everything))

    def is_closed(self, layers):
        """Whether each list contains what its row and some tuple of the list before ask for, by steps."""
        for before, layer, row in zip([[(0, 0, 0)]] + layers, layers, self.CLAIMS):
            for earlier in before:
                for counts in SMALL:
                    if agrees(plus(earlier, counts), row) and plus(earlier, counts) not in layer:
                        return False
        return True

    def test_too_small_layers_do_not_hold(self):
        layers = layers_of(self.CLAIMS)
        for at in range(3):
            for gone in range(len(layers[at])):
                smaller = [list(layer) for layer in layers]
                del smaller[at][gone]
                self.assertEqual(layers_hold(self.CLAIMS, smaller), self.is_closed(smaller))
        # A list may be shorter if no tuple of the lists before leads to what it lacks.
        self.assertFalse(layers_hold(self.CLAIMS, [[], [], []]))
        self.assertFalse(layers_hold(self.CLAIMS, [layers[0], layers[1], []]))

    def test_any_order_twice_and_tuples_as_lists(self):
        layers = layers_of(self.CLAIMS)
        self.assertTrue(layers_hold(tuple(self.CLAIMS), tuple([tuple(layer[::-1] * 2) for layer in layers])))

    def test_values_that_are_no_layers(self):
        layers = layers_of(self.CLAIMS)
        wrong = odd_values() + [layers[:2], layers + [[]], [layers[0], layers[1], None], [[], [], 0],
                                [layers[0], layers[1], layers[2] + [None]], {0: layers[0], 1: layers[1]},
                                [layers[0], layers[1], dict.fromkeys(layers[2])], "abc", [1, 2, 3]]
        for item in [(1, 1), (1, 1, 1, 1), [1, 1, 1], (True, 1, 1), (1, 2, 1), (-1, -1, -1), (2401, 2401, 2401),
                     (None, 1, 1), "111", 5, Text([]), ((1, 1, 1),)]:
            wrong += [[layer + [item] * (at == row) for row, layer in enumerate(layers)] for at in range(3)]
        for value in wrong:
            self.assertIs(layers_hold(self.CLAIMS, value), False)
            self.assertIs(shows_conflict(self.CLAIMS, value), False)

    def test_true_and_false_are_no_numbers_of_layers(self):
        self.assertIs(layers_hold([(1, 1, 1)], [[(1, 1, 1)]]), True)
        self.assertIs(layers_hold([(1, 1, 1)], [[(True, 1, 1)]]), False)
        self.assertIs(layers_hold([(1, 1, 1)], [[(1, 1, 1), (1, 1, True)]]), False)
        self.assertIs(layers_hold([(0, 0, 0)], [[(0, False, 0)]]), False)

    def test_conflicts_that_are_shown(self):
        conflict = [(5, 3, None), (None, 5, 2), (None, 6, 6)]
        first = [(5, 3, 2), (5, 3, 3)]
        for layers, wanted in [([first, [], []], True), ([first, [], [(0, 0, 0)]], True),
                               ([first, [(0, 0, 0)], []], False), ([first, [(0, 0, 0)], [(1, 1, 1)]], False),
                               ([first[:1], [], []], False), ([first + [(6, 3, 2)], [], []], True),
                               # No text has these counts.
                               ([first + [(4, 3, 2)], [], []], False), ([first + [(0, 0, 0)], [], []], True),
                               ([first, first, []], False), ([first, first[:1], []], True), ([[], [], []], False)]:
            self.assertIs(shows_conflict(conflict, layers), wanted, layers)
        # From one more tuple in the first list, the second row can be reached.
        conflict = [(5, 3, 2), (None, 2, 2)]
        self.assertIs(shows_conflict(conflict, [[(5, 3, 2)], []]), True)
        self.assertIs(shows_conflict(conflict, [[(5, 3, 2), (0, 0, 0)], []]), False)
        self.assertIs(shows_conflict(conflict, [[(5, 3, 2), (0, 0, 0)], [(at, 2, 2) for at in range(2, 7)]]), False)
        self.assertIs(layers_hold(conflict, [[(5, 3, 2), (0, 0, 0)], [(at, 2, 2) for at in range(2, 7)]]), True)

    def test_layers_are_new_lists(self):
        layers = layers_of(self.CLAIMS)
        layers[0].append(1)
        layers.append(2)
        self.assertEqual(len(layers_of(self.CLAIMS)), 3)
        self.assertTrue(layers_hold(self.CLAIMS, layers_of(self.CLAIMS)))
        for at in range(3):
            found = possible_at(self.CLAIMS, at)
            found.append(1)
            self.assertIsNot(possible_at(self.CLAIMS, at), found)
            self.assertNotIn(1, possible_at(self.CLAIMS, at))


class WrongClaims(ErrorCase):

    def calls(self):
        """Each function that takes claims, as one that takes nothing else."""
        text = Text(ONE_OF_EACH)
        return TAKERS + [lambda claims: bears(text, claims), lambda claims: layers_hold(claims, None),
                         lambda claims: shows_conflict(claims, None), lambda claims: possible_at(claims, None)]

    def test_no_list_or_too_many(self):
        for call in self.calls():
            for value in odd_values() + [[(0, 0, 0)] * 13, (None,) * 13, {0: (0, 0, 0)}]:
                if not isinstance(value, (list, tuple)) or len(value) > 12:
                    self.raised(InvalidClaims, {"value": value}, call, value)

    def test_no_row(self):
        wrong = [(1, 1), (1, 1, 1, 1), (), [1, 1, 1], (161, 161, 161), (-1, 0, 0), (0, 0, -1), (True, 1, 1),
                 (None, None, 1), (None, 1, None), (None, None, None), (None, True, 1), ("1", 1, 1), (1, [1], 1),
                 (0, 161, None), (HUGE, 1, 1), "111", ((1, 1, 1),)] + odd_values()
        for call in self.calls():
            for item in wrong:
                self.raised(InvalidClaim, {"value": item}, call, [(160, 160, 160), item, (None, None)])
                self.raised(InvalidClaim, {"value": item}, call, (item,) + ((9, 9, 9),) * 11)

    def test_texts_come_first(self):
        for value in no_texts():
            self.raised(InvalidText, {"value": value}, bears, value, None)

    def test_indices_come_last(self):
        claims = [(1, 1, None), (4, None, 2)]
        wrong = [-1, 2, HUGE, -HUGE] + [value for value in odd_values() if not is_plain_integer(value)]
        for value in wrong:
            self.raised(InvalidInteger, {"value": value}, possible_at, claims, value)
            # Also if no text bears the claims.
            self.raised(InvalidInteger, {"value": value}, possible_at, claims[::-1], value)

    def test_arguments_by_name(self):
        claims = [(1, None, 1)]
        layers = layers_of(claims=claims)
        self.assertTrue(layers_hold(layers=layers, claims=claims))
        self.assertFalse(shows_conflict(layers=layers, claims=claims))
        self.assertEqual(possible_at(index=0, claims=claims), [(1, 1, 1)])
        self.assertTrue(bears(claims=claims, text=bearing(claims=claims)))
        self.assertIsNone(first_conflict(claims=claims))
        self.assertTrue(is_possible(counts=(1, 1, 1)))
        self.assertEqual(text_with(counts=(4, 2, 1)).in_chars, 1)


if __name__ == "__main__":
    unittest.main()
