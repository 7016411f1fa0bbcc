"""A company: a server, programs, and the messages between them that have not been delivered yet."""

from threecounts.errors import NothingToDeliver, UnknownName
from threecounts.programs import Program
from threecounts.server import Server
from threecounts.validation import is_name


class Company:
    """A server with programs, and for each program two queues of messages."""

    def __init__(self, text):
        self.server = Server(text)
        self.programs = {}
        # For each program the messages from it, and those to it, the oldest first.
        self.rising = {}
        self.falling = {}

    @property
    def version(self):
        """The number of the newest version of the server."""
        return self.server.version

    def server_text(self, version=None):
        """Return the server's text of a version, of the newest one if it is None."""
        return self.server.text(version)

    def delta(self, version):
        """Return the delta that leads from a version to the next one."""
        return self.server.delta(version)

    def author(self, version):
        """Return the name of the program that made the change from a version to the next one."""
        return self.server.author(version)

    def join(self, name, kind):
        """Let a program take part that counts in a kind, and return the newest version."""
        version = self.server.join(name, kind)
        self.programs[name] = Program(name, kind, self.server.text(), version)
        self.rising[name] = []
        self.falling[name] = []
        return version

    def names(self):
        """Return the list of the names of the programs, as they joined."""
        return self.server.names()

    def program(self, name):
        """Return the program with a name."""
        if not is_name(name) or name not in self.programs:
            raise UnknownName(name)
        return self.programs[name]

    def kind_of(self, name):
        """Return the kind of a program."""
        return self.program(name).kind

    def text(self, name):
        """Return the own text of a program."""
        return self.program(name).text()

    def base(self, name):
        """Return the server's text of the version that a program knows."""
        return self.program(name).base()

    def version_of(self, name):
        """Return the version that a program knows."""
        return self.program(name).version

    def queues(self, name):
        """Return how many messages wait that come from a program, and how many that go to it."""
        self.program(name)
        return (len(self.rising[name]), len(self.falling[name]))

    def edit(self, name, edits):
        """Let a program change its text by edits."""
        self.program(name).edit(edits)

    def change(self, name, rows):
        """Let a program change its text by the rows of a delta."""
        self.program(name).change(rows)

    def undo(self, name):
        """Let a program take its newest call back."""
        self.program(name).undo()

    def send(self, name):
        """Let a program send its waiting change, and return whether it has sent a message."""
        message = self.program(name).send()
        if message is None:
            return False
        self.rising[name].append(message)
        return True

    def deliver_up(self, name):
        """Deliver the first message from a program to the server, and return the new version."""
        self.program(name)
        check_queue(self.rising[name], name)
        author, version, rows = self.rising[name][0]
        for label, message in self.server.submit(author, version, rows):
            self.falling[label].append(message)
        self.rising[name].pop(0)
        return self.server.version

    def deliver_down(self, name):
        """Deliver the first message to a program, and return it."""
        program = self.program(name)
        check_queue(self.falling[name], name)
        message = self.falling[name][0]
        program.receive(message)
        self.falling[name].pop(0)
        return message

    @property
    def is_quiet(self):
        """Whether all queues are empty and all programs are idle."""
        queues = list(self.rising.values()) + list(self.falling.values())
        return all([len(queue) == 0 for queue in queues]) and all([each.is_idle for each in self.programs.values()])

    def settle(self):
        """Send and deliver until the company is quiet, and return how many messages were delivered."""
        delivered = 0
        while not self.is_quiet:
            for name in self.names():
                self.send(name)
                while len(self.rising[name]) > 0:
                    self.deliver_up(name)
                    delivered = delivered + 1
            for name in self.names():
                while len(self.falling[name]) > 0:
                    self.deliver_down(name)
                    delivered = delivered + 1
        return delivered


def check_queue(queue, name):
    """Raise NothingToDeliver if a queue is empty."""
    if len(queue) == 0:
        raise NothingToDeliver(name)
