"""Promises 141 to 143: strings."""

import random
import unittest

from tests.helper import KINDS, ErrorCase, no_texts, odd_values, random_chars
from tests.oracles import random_rows
from threecounts.claims import layers_of
from threecounts.company import Company
from threecounts.deltas import Delta
from threecounts.edits import counted
from threecounts.errors import (InvalidClaim, InvalidClaims, InvalidCompany, InvalidDelta, InvalidEdits, InvalidLine,
                                InvalidString, InvalidText)
from threecounts.strings import (claims_string, delta_string, edits_string, history_string, parse_claims, parse_delta,
                                 parse_edits, parse_history, parse_text, text_string)
from threecounts.texts import Text

GREATEST = 10 ** 30 - 1
PARSERS = [parse_text, parse_delta, parse_edits, parse_claims, parse_history]
NO_WORDS = ["", " ", "  "]
# What is no number: of thirty-one digits, with leading zeros, signs, other characters or none.
NO_NUMBERS = ["1" * 31, "0" * 30, "00", "01", "007", "+1", "-1", "1.0", "1,", "x", "0x1", "1_0", "--", "1e3", "'1'"]


class StringCase(ErrorCase):

    def refused_line(self, index, parse, string):
        with self.subTest(string):
            self.raised(InvalidLine, {"index": index}, parse, string)

    def wrong_forms(self, line):
        """A line that is right, with spaces that are wrong."""
        return [" " + line, line + " ", line.replace(" ", "  ", 1) if " " in line else "  " + line, line + " \t"]


class Texts(StringCase):

    def test_there_and_back(self):
        source = random.Random(141)
        for chars in [[], [0], [10], [1114111, 0], [55295, 57344], [128512] * 600] + [
                random_chars(source, 30) for _ in range(30)]:
            string = text_string(Text(chars))
            self.assertEqual(string, " ".join([str(char) for char in chars]))
            self.assertEqual(parse_text(string), Text(chars))
            self.assertIs(type(parse_text(string)), Text)

    def test_lines_that_cannot_stand_there(self):
        for word in NO_NUMBERS + ["55296", "57343", "1114112", str(GREATEST), "-"]:
            for string in [word, "104 " + word, word + " 104", "104 " + word + " 104\nx"]:
                self.refused_line(0, parse_text, string)
        for string in NO_WORDS[1:] + self.wrong_forms("104 8364") + ["\n", "\n104", "\n\n", "104\t105"]:
            self.refused_line(0, parse_text, string)
        for string in ["104\n", "104\n105", "104\n\n", "104 105\nx"]:
            self.refused_line(1, parse_text, string)

    def test_no_text(self):
        for value in no_texts():
            self.raised(InvalidText, {"value": value}, text_string, value)


class Deltas(StringCase):

    def test_there_and_back(self):
        source = random.Random(142)
        for _ in range(100):
            delta = Delta(random_rows(source, source.randint(0, 12)))
            string = delta_string(delta)
            lines = [f"{word} {what}" if word != "put" else "put " + " ".join([str(char) for char in what])
                     for word, what in delta.rows()]
            self.assertEqual(string, "\n".join(lines))
            self.assertEqual(parse_delta(string), delta)
            self.assertIs(type(parse_delta(string)), Delta)
        self.assertEqual([delta_string(Delta([])), parse_delta("").rows()], ["", []])

    def test_rows_in_any_order(self):
        self.assertEqual(parse_delta("drop 1\nput 5\nput 6\nkeep 0\ndrop 2\nkeep 1\nkeep 2").rows(),
                         [("put", [5, 6]), ("drop", 3), ("keep", 3)])
        self.assertEqual(parse_delta("keep 0\ndrop 0").rows(), [])
        self.assertEqual(parse_delta("keep 600\ndrop 600").rows(), [("keep", 600), ("drop", 600)])

    def test_bounds(self):
        chars = " ".join(["65"] * 600)
        self.assertEqual(parse_delta("put " + chars).rows(), [("put", [65] * 600)])
        self.refused_line(0, parse_delta, "put " + chars + " 65")
        self.assertEqual(parse_delta("\n".join(["keep 1"] * 600)).rows(), [("keep", 600)])
        rows = [("put", [65]), ("keep", 1)] * 600
        self.assertEqual(parse_delta(delta_string(Delta(rows))), Delta(rows))
        self.refused_line(1300, parse_delta, "\n".join(["keep 0"] * 1301))

    def test_lines_that_cannot_stand_there(self):
        wrong = ["keep", "drop", "put", "keep 601", "drop 601", "keep 1 1", "drop 1 2", "Keep 1", "hold 1", "1", "1 keep",
                 "put 55296", "put 65 1114112", "put x", "put -", "keep -", "keepx 1", "keep keep", "keep " + str(GREATEST)]
        wrong += ["keep " + word for word in NO_NUMBERS] + ["put 65 " + word for word in NO_NUMBERS]
        wrong += NO_WORDS + self.wrong_forms("put 65 66") + self.wrong_forms("keep 1")
        for line in wrong:
            if line != "":
                self.refused_line(0, parse_delta, line)
            self.refused_line(0, parse_delta, line + "\nkeep 1")
            self.refused_line(2, parse_delta, "keep 1\nput 65\n" + line)
            self.refused_line(1, parse_delta, "drop 1\n" + line + "\nx")

    def test_no_delta(self):
        for value in odd_values():
            if not isinstance(value, Delta):
                self.raised(InvalidDelta, {"value": value}, delta_string, value)


class Edits(StringCase):

    def test_there_and_back(self):
        source = random.Random(143)
        for many in [0, 1, 2, 60]:
            for _ in range(10):
                edits = []
                for _ in range(many):
                    first = source.choice([0, 5, source.randint(0, 2400)])
                    edits.append((first, first + source.choice([0, 1, 7]), random_chars(source, 3)))
                string = edits_string(edits)
                self.assertEqual(string, "\n".join([" ".join([str(number) for number in [first, last, *chars]])
                                                    for first, last, chars in edits]))
                self.assertEqual(parse_edits(string), edits)
                self.assertEqual(edits_string(tuple([(*edit[:2], tuple(edit[2])) for edit in edits])), string)
        found = parse_edits("0 0 65")
        self.assertEqual([type(found), type(found[0]), type(found[0][2])], [list, tuple, list])

    def test_great_numbers_and_long_edits(self):
        edits = [(0, GREATEST, []), (GREATEST, GREATEST, [65] * 600)]
        self.assertEqual(parse_edits(edits_string(edits)), edits)
        self.refused_line(1, parse_edits, "0 0\n0 0" + " 65" * 601)
        self.refused_line(0, parse_edits, "0 " + "9" * 31)

    def test_lines_that_cannot_stand_there(self):
        wrong = ["1", "1 0", "10 9 65", "0 0 55296", "0 0 1114112", "0 0 65 x", "x 0", "0 x", "- 1", "0 -", "0 1 -",
                 "0 1 /", "keep 1"]
        wrong += ["0 " + word for word in NO_NUMBERS] + [word + " 9" for word in NO_NUMBERS]
        wrong += ["0 1 " + word for word in NO_NUMBERS] + NO_WORDS + self.wrong_forms("1 2 65")
        for line in wrong:
            if line != "":
                self.refused_line(0, parse_edits, line)
            self.refused_line(0, parse_edits, line + "\n0 0")
            self.refused_line(2, parse_edits, "0 0\n5 6 65\n" + line)
        self.assertEqual(len(parse_edits("\n".join(["0 0"] * 60))), 60)
        self.refused_line(60, parse_edits, "\n".join(["0 0"] * 61))
        self.refused_line(59, parse_edits, "\n".join(["0 0"] * 59 + ["x"] * 9))

    def test_no_edits(self):
        wrong = [value for value in odd_values() if not isinstance(value, (list, tuple)) or len(value) > 0]
        wrong += [[(0, 0, [])] * 61, [(0, 0, []), None], [(1, 0, [])], [[0, 0, []]], [(0, 0, [65] * 601)], [(0, 0)],
                  [(0, 0, [55296])], [(0, True, [])], ((-1, 0, []),), {0: (0, 0, [])}]
        for value in wrong:
            self.raised(InvalidEdits, {"value": value}, edits_string, value)
        self.assertEqual([edits_string([]), edits_string(()), parse_edits("")], ["", "", []])


class Claims(StringCase):

    def test_there_and_back(self):
        source = random.Random(144)
        for many in [0, 1, 2, 12]:
            for _ in range(10):
                claims = []
                for _ in range(many):
                    row = [source.choice([0, 160, source.randint(0, 160)]) for _ in range(3)]
                    if source.randrange(2):
                        row[source.randrange(3)] = None
                    claims.append(tuple(row))
                string = claims_string(claims)
                self.assertEqual(string, "\n".join([" ".join(["-" if number is None else str(number) for number in row])
                                                    for row in claims]))
                self.assertEqual(parse_claims(string), claims)
                self.assertEqual(claims_string(tuple(claims)), string)
                self.assertEqual(len(layers_of(parse_claims(string))), many)

    def test_lines_that_cannot_stand_there(self):
        wrong = ["1", "1 1", "1 1 1 1", "161 1 1", "1 161 1", "1 1 161", "- - 1", "- 1 -", "- - -", "1 -1 1", "1 1 x",
                 "1 1 None", "1 1 --", "1 - 1 1"]
        wrong += [f"1 {word} 1" for word in NO_NUMBERS] + [f"- 1 {word}" for word in NO_NUMBERS]
        wrong += NO_WORDS + self.wrong_forms("1 - 3")
        for line in wrong:
            if line != "":
                self.refused_line(0, parse_claims, line)
            self.refused_line(0, parse_claims, line + "\n1 1 1")
            self.refused_line(2, parse_claims, "0 0 0\n- 1 1\n" + line)
        self.assertEqual(len(parse_claims("\n".join(["0 0 0"] * 12))), 12)
        self.refused_line(12, parse_claims, "\n".join(["0 0 0"] * 13))
        self.refused_line(11, parse_claims, "\n".join(["0 0 0"] * 11 + ["x"] * 9))

    def test_no_claims(self):
        for value in odd_values() + [[(0, 0, 0)] * 13]:
            if not isinstance(value, (list, tuple)) or len(value) > 12:
                self.raised(InvalidClaims, {"value": value}, claims_string, value)
        for item in [(1, 1), (None, None, 1), (True, 1, 1), (161, 1, 1), [1, 1, 1], None]:
            self.raised(InvalidClaim, {"value": item}, claims_string, [(1, 1, 1), item, None])
        self.assertEqual([claims_string([]), parse_claims("")], ["", []])


class Histories(StringCase):

    def company_of(self, source, chars, steps):
        company = Company(Text(chars))
        for name, kind in zip(["text", "ann", "bobbobbo"], KINDS):
            company.join(name, kind)
        for _ in range(steps):
            name = source.choice(company.names())
            delta = Delta(random_rows(source, len(company.text(name)), 4, 128500))
            company.change(name, counted(delta, company.text(name), company.kind_of(name)))
            if source.randrange(2):
                company.settle()
        company.settle()
        return company

    def wanted(self, company):
        lines = [" ".join(["text"] + text_string(company.server_text(0)).split())]
        for version in range(company.version):
            rows = delta_string(company.delta(version))
            lines.append(company.author(version) + (" " + " / ".join(rows.split("\n")) if rows else ""))
        return "\n".join(lines)

    def test_there_and_back(self):
        source = random.Random(145)
        for steps in [0, 1, 2, 12]:
            for _ in range(8):
                company = self.company_of(source, random_chars(source, 6), steps)
                string = history_string(company)
                self.assertEqual(string, self.wanted(company))
                text, changes = parse_history(string)
                self.assertEqual(text, company.server_text(0))
                self.assertEqual(changes, [(company.author(version), company.delta(version))
                                           for version in range(company.version)])
        self.assertEqual([type(parse_history("text")), type(changes), type(changes[0]), type(changes[0][1])],
                         [tuple, list, tuple, Delta])

    def test_the_empty_text_and_versions_without_rows(self):
        company = Company(Text([]))
        self.assertEqual(history_string(company), "text")
        self.assertEqual(parse_history("text"), (Text([]), []))
        company.join("ann", "bytes")
        for rows in [[], [("put", [97])], [("drop", 1)], []]:
            company.change("ann", rows)
            company.settle()
        string = "text\nann\nann put 97\nann drop 1\nann"
        self.assertEqual(history_string(company=company), string)
        text, changes = parse_history(string=string)
        self.assertEqual([delta.rows() for _, delta in changes], [[], [("put", [97])], [("drop", 1)], []])

    def test_rows_in_any_order(self):
        text, changes = parse_history("text 1 2\nann drop 1 / put 65 / put 66 / keep 0 / keep 1 / drop 0\ntext keep 3")
        self.assertEqual(text.chars(), [1, 2])
        self.assertEqual([(name, delta.rows()) for name, delta in changes],
                         [("ann", [("put", [65, 66]), ("drop", 1), ("keep", 1)]), ("text", [("keep", 3)])])

    def test_the_first_line(self):
        for string in ["", "\ntext", "\n", "Text", "texts", "text 55296", "text x", "text  1", "text ", " text", "1 2",
                       "ann keep 1", "text 01", "text -", "text 1 /", "text / 1", "text\t1"]:
            self.refused_line(0, parse_history, string)
            self.refused_line(0, parse_history, string + "\nx")

    def test_later_lines(self):
        wrong = ["", " ", "Ann keep 2", "abcdefghi keep 2", "ann1 keep 2", "keep 2 ", "ann keep 2 /", "ann / keep 2",
                 "ann keep 2 / / keep 0", "ann keep 2/keep 0", "ann keep 2 /keep 0", "ann keep 2 | keep 0", "ann keep",
                 "ann put / keep 2", "ann keep 601", "ann keep 2 keep 0", "ann  keep 2", " ann keep 2", "ann keep 02",
                 "ann keep 2 / put 55296", "ann drop 1 / keep 1 / x", "ann hold 2", "ann 2", "-", "/",
                 "ann " + " / ".join(["keep 0"] * 1299 + ["keep 1"] * 2)]
        # These deltas are for texts of another length.
        wrong += ["ann", "ann keep 1", "ann keep 3", "ann put 65", "ann drop 3", "ann keep 2 / drop 1", "keep keep 0"]
        for line in wrong:
            self.refused_line(1, parse_history, "text 65 66\n" + line)
            self.refused_line(1, parse_history, "text 65 66\n" + line + "\nann keep 2")
            self.refused_line(3, parse_history, "text 65\nann keep 1\nann drop 1 / put 65 66\n" + line + "\nx")
        for line in ["ann x", "ann put", "ann keep", "ann 0", "ann /", "ann -"]:
            self.refused_line(1, parse_history, "text\n" + line)
        self.refused_line(2, parse_history, "text 65 66\nann drop 2\nann drop 2")
        self.refused_line(3, parse_history, "text\nann put 65 66\nbob keep 1 / drop 1\nann keep 2")
        self.assertEqual(len(parse_history("text 65\nann " + " / ".join(["keep 0"] * 1299 + ["keep 1"]))[1]), 1)

    def test_no_company(self):
        for value in odd_values():
            self.raised(InvalidCompany, {"value": value}, history_string, value)


class NoStrings(StringCase):

    def test_no_strings(self):
        for parse in PARSERS:
            for value in odd_values():
                if not isinstance(value, str):
                    self.raised(InvalidString, {"value": value}, parse, value)

    def test_by_name(self):
        self.assertEqual(text_string(text=parse_text(string="1 2")), "1 2")
        self.assertEqual(delta_string(delta=parse_delta(string="keep 1")), "keep 1")
        self.assertEqual(edits_string(edits=parse_edits(string="0 1 2")), "0 1 2")
        self.assertEqual(claims_string(claims=parse_claims(string="1 1 1")), "1 1 1")


if __name__ == "__main__":
    unittest.main()
