"""Net: messages on their way, as bytes, and links that are cut."""

from shardstack.errors import MachineError
from shardstack.wire import pack, unpack


class Net:
    """Messages on their way as (from, target, bytes), in the order of sending, and parts of the net that are cut."""

    def __init__(self):
        self.messages = []
        self.parts = {}
        self.sent = 0
        self.lost = 0

    def send(self, source, target, value):
        """Put a message on its way; one over a cut link is lost at once."""
        data = pack(value)
        self.sent = self.sent + 1
        if self.is_cut(source, target):
            self.lost = self.lost + 1
        else:
            self.messages.append((source, target, data))

    def is_cut(self, one, other):
        """Return True if two machines are in different parts."""
        return self.parts.get(one, 0) != self.parts.get(other, 0)

    def cut(self, names, part):
        """Put machines into a part of the net; part 0 is where all others are."""
        for name in names:
            self.parts[name] = part

    def heal(self):
        """Let all machines reach each other again."""
        self.parts = {}

    def check_place(self, place):
        """Raise MachineError if there is no message at a place."""
        if not 0 <= place < len(self.messages):
            raise MachineError("there is no such message")

    def take(self, place):
        """Return (from, target, value) of a message, which arrives; raise MachineError for none at a place."""
        self.check_place(place)
        source, target, data = self.messages[place]
        value = unpack(data)
        del self.messages[place]
        return (source, target, value)

    def drop(self, place):
        """Lose a message."""
        self.check_place(place)
        del self.messages[place]
        self.lost = self.lost + 1

    def repeat(self, place):
        """Let a message arrive once more, as the last one."""
        self.check_place(place)
        self.messages.append(self.messages[place])

    def forget(self, name):
        """Lose all messages to a machine."""
        left = [message for message in self.messages if message[1] != name]
        self.lost = self.lost + len(self.messages) - len(left)
        self.messages = left
