"""Texts, deltas, edits, claims and histories as strings, and back."""

from threecounts.claims import MOST_CLAIMS, MOST_KNOWN, check_claims, is_claim
from threecounts.company import Company
from threecounts.deltas import MOST_CHARS, MOST_ROWS, Delta, check_delta
from threecounts.edits import MOST_EDITS, is_edit
from threecounts.errors import InvalidCompany, InvalidEdits, InvalidLine, InvalidString
from threecounts.texts import Text, check_text
from threecounts.validation import LAST_CHAR, is_char, is_list, is_name, parse_integer, split_words

MOST_NUMBER = 999999999999999999999999999999
UNKNOWN = "-"


def text_string(text):
    """Return the string of a text."""
    check_text(text)
    return numbers_line(text.chars())


def numbers_line(numbers):
    """Return the line with some numbers as words."""
    return " ".join([str(number) for number in numbers])


def parse_text(string):
    """Return the text that a string represents."""
    lines = parsed_lines(string, chars_of_line, 1)
    if len(lines) == 0:
        return Text([])
    return Text(lines[0])


def parsed_lines(string, parse, most):
    """Return the list of what the lines of a string represent; no more lines than most can stand there.

    The function parse returns what a line represents, or None if it cannot stand there.
    """
    found = []
    for index, line in enumerate(lines_of(string)):
        item = parse(line)
        if item is None or index >= most:
            raise InvalidLine(index)
        found.append(item)
    return found


def lines_of(string):
    """Return the list of the lines of a string."""
    if not isinstance(string, str):
        raise InvalidString(string)
    if string == "":
        return []
    return string.split("\n")


def words_of(line):
    """Return the list of the words of a line, none if it does not consist of words."""
    words = split_words(line)
    if words is None:
        return []
    return words


def chars_of_line(line):
    """Return the list of the characters that a line represents as numbers, or None."""
    words = words_of(line)
    if len(words) == 0:
        return None
    return chars_of_words(words)


def chars_of_words(words):
    """Return the list of the characters that words represent as numbers, or None."""
    chars = [parse_integer(word, high=LAST_CHAR) for word in words]
    if not all([is_char(char) for char in chars]):
        return None
    return chars


def delta_string(delta):
    """Return the string of a delta."""
    check_delta(delta)
    return "\n".join(row_lines(delta.rows()))


def row_lines(rows):
    """Return the list of the lines for the rows of a delta."""
    return [f"put {numbers_line(what)}" if word == "put" else f"{word} {what}" for word, what in rows]


def one_line(rows):
    """Return the rows of a delta as a single line."""
    return " / ".join(row_lines(rows))


def parse_delta(string):
    """Return the delta that a string represents."""
    return Delta(parsed_lines(string, row_of_line, MOST_ROWS))


def row_of_line(line):
    """Return the row of a delta that a line represents, or None."""
    words = words_of(line)
    if len(words) < 2:
        return None
    if words[0] == "put":
        return put_of_words(words[1:])
    number = parse_integer(words[1], high=MOST_CHARS)
    if words[0] not in ("keep", "drop") or len(words) > 2 or number is None:
        return None
    return (words[0], number)


def put_of_words(words):
    """Return the row that puts the characters that words represent, or None."""
    chars = chars_of_words(words)
    if chars is None or len(chars) > MOST_CHARS:
        return None
    return ("put", chars)


def edits_string(edits):
    """Return the string of a list of edits."""
    if not is_list(edits) or len(edits) > MOST_EDITS or not all([is_edit(item) for item in edits]):
        raise InvalidEdits(edits)
    return "\n".join([numbers_line([first, last] + list(chars)) for first, last, chars in edits])


def parse_edits(string):
    """Return the list of edits that a string represents."""
    return parsed_lines(string, edit_of_line, MOST_EDITS)


def edit_of_line(line):
    """Return the edit that a line represents, or None."""
    words = words_of(line)
    if len(words) < 2:
        return None
    first = parse_integer(words[0], high=MOST_NUMBER)
    last = parse_integer(words[1], high=MOST_NUMBER)
    edit = (first, last, chars_of_words(words[2:]))
    return edit if is_edit(edit) else None


def claims_string(claims):
    """Return the string of claims."""
    check_claims(claims)
    return "\n".join([" ".join([claim_word(number) for number in row]) for row in claims])


def claim_word(number):
    """Return the word for a number of a claim."""
    if number is None:
        return UNKNOWN
    return str(number)


def parse_claims(string):
    """Return the list of claims that a string represents."""
    return parsed_lines(string, claim_of_line, MOST_CLAIMS)


def claim_of_line(line):
    """Return the row of claims that a line represents, or None."""
    words = words_of(line)
    row = tuple([parse_integer(word, high=MOST_KNOWN) for word in words])
    # What is no number may only be the word for one that is not known.
    if any([number is None and word != UNKNOWN for number, word in zip(row, words)]):
        return None
    return row if is_claim(row) else None


def history_string(company):
    """Return the string of all versions of the server of a company."""
    if not isinstance(company, Company):
        raise InvalidCompany(company)
    lines = [" ".join(["text"] + [str(char) for char in company.server_text(0)])]
    for version in range(company.version):
        lines.append(change_line(company.author(version), company.delta(version).rows()))
    return "\n".join(lines)


def change_line(name, rows):
    """Return the line of a history for a change that a program has made."""
    if len(rows) == 0:
        return name
    return f"{name} {one_line(rows)}"


def parse_history(string):
    """Return the text of version 0 and the list of (name, delta) for all changes that a string represents."""
    lines = lines_of(string)
    if len(lines) == 0:
        raise InvalidLine(0)
    chars = begun_of_line(lines[0])
    if chars is None:
        raise InvalidLine(0)
    changes = []
    size = len(chars)
    for index, line in enumerate(lines[1:], start=1):
        change = change_of_line(line)
        if change is None or change[1].length_before != size:
            raise InvalidLine(index)
        changes.append(change)
        size = change[1].length_after
    return (Text(chars), changes)


def begun_of_line(line):
    """Return the list of the characters that the first line of a history represents, or None."""
    words = words_of(line)
    if words[:1] != ["text"]:
        return None
    return chars_of_words(words[1:])


def change_of_line(line):
    """Return the (name, delta) that a later line of a history represents, or None."""
    words = words_of(line)
    if len(words) == 0 or not is_name(words[0]):
        return None
    rows = []
    if len(words) > 1:
        rows = [row_of_line(part) for part in " ".join(words[1:]).split(" / ")]
    if None in rows or len(rows) > MOST_ROWS:
        return None
    return (words[0], Delta(rows))
