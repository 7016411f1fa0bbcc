"""A program edits a copy of the text of a server, and counts in one kind."""

from threecounts.deltas import text_after
from threecounts.edits import counted, delta_from, together
from threecounts.errors import BadRow, InvalidMessage, InvalidName, InvalidRow, InvalidRows, InvalidVersion
from threecounts.errors import NothingToUndo
from threecounts.texts import check_kind, check_text
from threecounts.validation import is_integer, is_name

MOST_VERSION = 1000


class Program:
    """Edits a copy of the text of a server."""

    def __init__(self, name, kind, text, version):
        if not is_name(name):
            raise InvalidName(name)
        check_kind(kind)
        check_text(text)
        if not is_integer(version, 0, MOST_VERSION):
            raise InvalidVersion(version)
        self.own_name = name
        self.own_kind = kind
        self.known = version
        self.base_text = text
        # The sent change is for the base, the waiting one for the text after it; None if there is none.
        self.sent = None
        self.waiting = None
        self.own_text = text
        # The deltas that take calls back, the newest call first: each one is for the text after the one before it.
        self.backs = []

    @property
    def name(self):
        """The name."""
        return self.own_name

    @property
    def kind(self):
        """The kind in which the program counts."""
        return self.own_kind

    @property
    def version(self):
        """The version of the server's text that the program knows."""
        return self.known

    @property
    def is_idle(self):
        """Whether there is no sent and no waiting change."""
        return self.sent is None and self.waiting is None

    def base(self):
        """Return the server's text of the version that the program knows."""
        return self.base_text

    def text(self):
        """Return the program's own text."""
        return self.own_text

    def edit(self, edits):
        """Change the own text by edits that are counted against it."""
        self.make(together(edits, self.own_text, self.own_kind))

    def change(self, rows):
        """Change the own text by the rows of a delta that are counted against it."""
        self.make(delta_from(rows, self.own_text, self.own_kind))

    def make(self, delta):
        """Make a change that can be taken back."""
        self.backs = [delta.inverted(self.own_text)] + self.backs
        self.put_waiting(delta)

    def put_waiting(self, delta):
        """Change the own text by a delta, which waits to be sent."""
        if self.waiting is None:
            self.waiting = delta
        else:
            self.waiting = self.waiting + delta
        self.own_text = text_after(delta, self.own_text)

    def send(self):
        """Turn the waiting change into the sent one, and return the message about it, or None."""
        if self.waiting is None or self.sent is not None:
            return None
        self.sent = self.waiting
        self.waiting = None
        return (self.own_name, self.known, counted(self.sent, self.base_text, self.own_kind))

    def receive(self, message):
        """Take a message of the server."""
        if not is_message(message) or not is_integer(message[1], self.known + 1, self.known + 1):
            raise InvalidMessage(message)
        if message[0] == "ack":
            if self.sent is None:
                raise InvalidMessage(message)
            self.base_text = text_after(self.sent, self.base_text)
            self.sent = None
        else:
            self.bring_in(self.delta_told(message))
        self.known = message[1]

    def delta_told(self, message):
        """Return the delta for the base that a message about a change tells."""
        try:
            return delta_from(message[2], self.base_text, self.own_kind)
        except (InvalidRows, InvalidRow, BadRow) as error:
            raise InvalidMessage(message) from error

    def bring_in(self, delta):
        """Change the base by a delta of others, and the own text by what it is behind the own changes."""
        self.base_text = text_after(delta, self.base_text)
        if self.sent is not None:
            delta, self.sent = crossed(delta, self.sent)
        if self.waiting is not None:
            delta, self.waiting = crossed(delta, self.waiting)
        self.own_text = text_after(delta, self.own_text)
        backs = []
        for old in self.backs:
            back, delta = crossed(old, delta)
            backs.append(back)
        self.backs = backs

    def undo(self):
        """Take the newest call back that has not been taken back."""
        if len(self.backs) == 0:
            raise NothingToUndo()
        newest = self.backs[0]
        self.backs = self.backs[1:]
        self.put_waiting(newest)

    @property
    def undo_count(self):
        """How many calls can be taken back."""
        return len(self.backs)


def is_message(message):
    """Tell whether any value has the form of a message of the server."""
    if not isinstance(message, tuple):
        return False
    if len(message) == 2:
        return message[0] == "ack"
    return len(message) == 3 and message[0] == "change"


def crossed(one, other):
    """Return two deltas for the same text, each moved over the other; what the first one puts stands ahead."""
    return (one.over(other, first=True), other.over(one, first=False))
