"""A server keeps a text in versions, and takes changes from programs that count in different kinds."""

from threecounts.deltas import puts_in, text_after
from threecounts.edits import counted, delta_from
from threecounts.errors import DuplicateName, InvalidFlag, InvalidName, InvalidVersion, UnknownMark, UnknownName
from threecounts.places import Place, place_at
from threecounts.texts import check_kind, check_text
from threecounts.validation import is_flag, is_integer, is_name


class Server:
    """Keeps a text in versions."""

    def __init__(self, text):
        check_text(text)
        self.texts = [text]
        # The delta at an index leads from the version with this number to the next one.
        self.deltas = []
        self.authors = []
        self.kinds = {}
        # For each mark a tuple: after how many characters it stands, and its side.
        self.spots = {}

    @property
    def version(self):
        """The number of the newest version."""
        return len(self.deltas)

    def text(self, version=None):
        """Return the text of a version, of the newest one if it is None."""
        if version is None:
            return self.texts[-1]
        check_version(version, len(self.deltas))
        return self.texts[version]

    def delta(self, version):
        """Return the delta that leads from a version to the next one."""
        check_version(version, len(self.deltas) - 1)
        return self.deltas[version]

    def author(self, version):
        """Return the name of the program that made the change from a version to the next one."""
        check_version(version, len(self.deltas) - 1)
        return self.authors[version]

    def join(self, name, kind):
        """Let a program take part that counts in a kind, and return the newest version."""
        check_name(name)
        if name in self.kinds:
            raise DuplicateName(name)
        check_kind(kind)
        self.kinds[name] = kind
        return len(self.deltas)

    def names(self):
        """Return the list of the names of the programs, as they joined."""
        return list(self.kinds)

    def kind_of(self, name):
        """Return the kind of a program."""
        if not is_name(name) or name not in self.kinds:
            raise UnknownName(name)
        return self.kinds[name]

    def submit(self, name, version, rows):
        """Take a change of a program, and return the list of (name, message) for all programs."""
        kind = self.kind_of(name)
        check_version(version, len(self.deltas))
        delta = delta_from(rows, self.texts[version], kind)
        for later in self.deltas[version:]:
            delta = delta.over(later, first=False)
        self.extend_by(delta, name)
        return [(label, self.message_to(label, name)) for label in self.kinds]

    def extend_by(self, delta, name):
        """Make a new version by a delta for the newest one."""
        self.spots = spots_after(self.spots, delta)
        self.texts.append(text_after(delta, self.texts[-1]))
        self.deltas.append(delta)
        self.authors.append(name)

    def message_to(self, label, name):
        """Return the message to a program about the newest version, which the program with a name has made."""
        if label == name:
            return ("ack", len(self.deltas))
        return self.change_message(len(self.deltas), self.kinds[label])

    def change_message(self, version, kind):
        """Return the message, in a kind, about the change that led to a version."""
        return ("change", version, counted(self.deltas[version - 1], self.texts[version - 1], kind))

    def missed(self, name, version):
        """Return the list of the messages for a program about all changes from a version on."""
        kind = self.kind_of(name)
        check_version(version, len(self.deltas))
        return [self.change_message(later, kind) for later in range(version + 1, len(self.deltas) + 1)]

    def set_mark(self, label, number, kind, *, after=False):
        """Set a mark, or set it anew, at the place with a number in a kind in the newest text."""
        check_name(label)
        place = place_at(self.texts[-1], number, kind)
        if not is_flag(after):
            raise InvalidFlag(after)
        self.spots[label] = (place.in_chars, after)

    def remove_mark(self, label):
        """Take a mark away."""
        self.check_mark(label)
        del self.spots[label]

    def mark(self, label):
        """Return the place of a mark in the newest text."""
        self.check_mark(label)
        return Place(self.texts[-1], self.spots[label][0])

    def check_mark(self, label):
        """Raise UnknownMark unless there is a mark with this name."""
        if not is_name(label) or label not in self.spots:
            raise UnknownMark(label)

    def marks(self):
        """Return the list of (n, label) for all marks, ascending by the place, then by the name."""
        labels = {}
        for label in sorted([str(each) for each in self.spots]):
            ahead = self.spots[label][0]
            labels[ahead] = labels.get(ahead, []) + [label]
        return [(ahead, label) for ahead in sorted([int(each) for each in labels]) for label in labels[ahead]]


def check_version(version, newest):
    """Raise InvalidVersion unless version is an integer from 0 to the newest one."""
    if not is_integer(version, 0, newest):
        raise InvalidVersion(version)


def check_name(name):
    """Raise InvalidName unless name is a name."""
    if not is_name(name):
        raise InvalidName(name)


def spots_after(spots, delta):
    """Return where marks stand after a change, as a dict like the one of where they stood."""
    stays = stays_in(delta.segments)
    puts = puts_in(delta.segments)
    found = {}
    for label, (ahead, after) in spots.items():
        kept = sum(stays[:ahead])
        put = sum([len(chars) for gap, chars in puts.items() if gap < ahead or (gap == ahead and after)])
        found[label] = (kept + put, after)
    return found


def stays_in(segments):
    """Return the list with 1 for each character of the text that is kept, and 0 for each one that is dropped."""
    found = []
    for kept, put, dropped in segments:
        found.extend([1] * kept)
        found.extend([0] * dropped)
    return found
