"""Sessions: a company that is told by commands what to do."""

from threecounts.company import Company
from threecounts.edits import MOST_EDITS
from threecounts.errors import InvalidCommand, MissingError, PlaceError, StateError
from threecounts.places import translated
from threecounts.strings import MOST_NUMBER, chars_of_words, edit_of_line, history_string, numbers_line, one_line
from threecounts.texts import Text
from threecounts.validation import is_kind, is_list, is_name, parse_integer, split_words

DONE = "ok"
NO_ITEMS = "none"


def do_begin(session, chars):
    """Give the session a new company."""
    session.held = Company(Text(chars))
    return DONE


def do_join(session, name, kind):
    """Let a program take part."""
    return str(session.held.join(name, kind))


def do_edit(session, name, edits):
    """Let a program change its text by edits."""
    session.held.edit(name, edits)
    return DONE


def do_undo(session, name):
    """Let a program take its newest call back."""
    session.held.undo(name)
    return DONE


def do_send(session, name):
    """Let a program send its waiting change."""
    return "sent" if session.held.send(name) else "nothing"


def do_up(session, name):
    """Deliver a message from a program."""
    return str(session.held.deliver_up(name))


def do_down(session, name):
    """Deliver a message to a program."""
    message = session.held.deliver_down(name)
    if message[0] == "ack":
        return f"ack {message[1]}"
    rows = one_line(message[2])
    if rows == "":
        rows = NO_ITEMS
    return f"change {message[1]}: {rows}"


def do_settle(session):
    """Send and deliver until the company is quiet."""
    return str(session.held.settle())


def tell_server_text(session):
    """Tell the server's newest text."""
    return told_chars(session.held.server_text())


def tell_text(session, name):
    """Tell the text of a program."""
    return told_chars(session.held.text(name))


def tell_base(session, name):
    """Tell the base of a program."""
    return told_chars(session.held.base(name))


def tell_names(session):
    """Tell the programs, with their kinds and the versions that they know."""
    company = session.held
    return told([f"{name}:{company.kind_of(name)}:{company.version_of(name)}" for name in company.names()])


def tell_queues(session, name):
    """Tell how many messages from a program and to it wait."""
    return numbers_line(session.held.queues(name))


def tell_quiet(session):
    """Tell whether the company is quiet."""
    return "yes" if session.held.is_quiet else "no"


def tell_count(session, kind):
    """Tell the count of the server's newest text."""
    return str(session.held.server_text().count(kind))


def tell_place(session, number, kind, other):
    """Tell the number of a place of the server's newest text in another kind."""
    return str(translated(session.held.server_text(), number, kind, other))


def tell_history(session):
    """Tell all versions of the server."""
    lines = [" | ".join(line.split(" / ")) for line in history_string(session.held).split("\n")]
    return " / ".join(lines)


def told(words):
    """Return the answer that tells a list of words."""
    if len(words) == 0:
        return NO_ITEMS
    return " ".join(words)


def told_chars(text):
    """Return the answer that tells the characters of a text."""
    return told([str(char) for char in text])


# What each command does. A word in capital letters stands for one argument, at the end also for several words.
COMMANDS = {
    "begin CHARS": do_begin,
    "join NAME KIND": do_join,
    "edit NAME EDITS": do_edit,
    "undo NAME": do_undo,
    "send NAME": do_send,
    "up NAME": do_up,
    "down NAME": do_down,
    "settle": do_settle,
    "text": tell_server_text,
    "text NAME": tell_text,
    "base NAME": tell_base,
    "names": tell_names,
    "queues NAME": tell_queues,
    "quiet": tell_quiet,
    "count KIND": tell_count,
    "place N KIND KIND": tell_place,
    "history": tell_history,
}


def arguments_in(words, form):
    """Return the list of the arguments that words give to a command, or None if they are not this command."""
    shapes = form.split(" ")
    if words[0] != shapes[0]:
        return None
    given = list(words)
    last = len(shapes) - 1
    if shapes[last] in ("CHARS", "EDITS"):
        # All words that are left, or none, are one argument.
        given = words[:last] + [" ".join(words[last:])]
    if len(given) != len(shapes):
        return None
    found = [argument_in(word, shape) for word, shape in zip(given[1:], shapes[1:])]
    if None in found:
        return None
    return found


def argument_in(word, shape):
    """Return the argument of a shape that a word, or several, represent, or None."""
    if shape == "NAME":
        return word if is_name(word) else None
    if shape == "KIND":
        return word if is_kind(word) else None
    if shape == "N":
        return parse_integer(word, high=MOST_NUMBER)
    if shape == "CHARS":
        return chars_in(word)
    return edits_in(word)


def chars_in(line):
    """Return the list of the characters that a line, which may be empty, represents, or None."""
    if line == "":
        return []
    return chars_of_words(line.split(" "))


def edits_in(line):
    """Return the list of edits that a part of a line represents, or None."""
    edits = [edit_of_line(part) for part in line.split(" / ")]
    if None in edits or len(edits) > MOST_EDITS:
        return None
    return edits


class Session:
    """Has a company, and executes commands."""

    def __init__(self):
        self.held = Company(Text([]))
        self.done = []

    def execute(self, line):
        """Execute a command, and return its answer."""
        words = split_words(line)
        if words is None:
            raise InvalidCommand(line)
        for form in COMMANDS:
            given = arguments_in(words, form)
            if given is not None:
                action = COMMANDS[form]
                answer = action(self, *given)
                self.done.append(line)
                return answer
        raise InvalidCommand(line)

    def execute_all(self, lines):
        """Execute the lines of a list one after another, and return the list of their answers."""
        if not is_list(lines):
            raise InvalidCommand(lines)
        return [self.answer_to(line) for line in lines]

    def answer_to(self, line):
        """Execute a command, and return its answer, also if it is refused."""
        try:
            return self.execute(line)
        except PlaceError:
            return "error invalid"
        except MissingError:
            return "error missing"
        except StateError:
            return "error state"

    def log(self):
        """Return the list of all lines that were executed without an exception."""
        return list(self.done)

    def company(self):
        """Return the company."""
        return self.held
