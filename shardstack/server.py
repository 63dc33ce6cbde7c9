"""Server: a machine: its disk, its part in its group's agreement, what it keeps, and the requests that wait."""

from shardstack.errors import MachineError
from shardstack.journal import read_journal
from shardstack.keeper import Keeper, check_operation
from shardstack.raft import LEADER, Agreement
from shardstack.shards import MAPS, MapBook, check_key

# A leader does not ask other groups at each tick: answers take a while.
ASK_TICKS = 3

# A message or a command with another number of items than its class has is an unknown one.
SIZES = {"log": 2, "request": 4, "reply": 4}
MAP_COMMANDS = {"ask": 4, "map": 2, "members": 2}
COMMANDS = {
    "ask": 4, "map": 2, "install": 4, "drop": 3, "prepare": 4, "decide": 4, "finish": 4, "members": 2,
    "read": 2, "near": 4, "pull": 3, "have": 3,
}


class Server:
    """A machine of a group: messages are ("log", row), ("request", from, number, command) and
    ("reply", number, answer, place).

    Commands of requests are those of the log, and ("read", key), ("near", key, place, map's number), ("map", number),
    ("pull", shard, number), ("have", shard, number) and ("members", members). Answers that are no keeper's:
    ("follow", machine or None), ("map", what a map shows), ("shard", shard, number, what the shard shows) and
    ("have", shard, number). A reply's place is the entry by which it was applied, or up to which the machine has
    applied.
    """

    def __init__(self, name, group, members, map_members, disk, seed, limit=12):
        self.name = name
        self.group = group
        self.map_members = tuple(map_members)
        self.limit = limit
        self.agreement = Agreement(name, read_journal(disk, members), seed)
        self.book = MapBook() if group == MAPS else Keeper(group)
        self.applied = 0
        self.waiting = {}
        self.reads = []
        self.outbox = []
        self.ticks = 0
        self.asked = 0
        self.take_base()

    def tick(self):
        """Let a tick of time pass."""
        self.agreement.tick()
        self.ticks = self.ticks + 1
        if self.ticks % ASK_TICKS == 0 and self.group != MAPS and self.agreement.part == LEADER:
            self.ask_others()
        self.go_on()

    def receive(self, message):
        """Handle a message; raise MachineError for an unknown one."""
        word = message[0] if len(message) > 0 else None
        if word not in SIZES or len(message) != SIZES[word]:
            raise MachineError("an unknown message")
        if word == "log":
            self.agreement.receive(message[1])
        elif word == "request":
            self.handle(message[1], message[2], message[3])
        else:
            self.use_reply(message[2])
        self.go_on()

    def take_outbox(self):
        """Return the (target, message) pairs to be sent, and empty the outbox."""
        found = [(target, ("log", row)) for target, row in self.agreement.take_outbox()] + self.outbox
        self.outbox = []
        return found

    def reply(self, source, number, answer):
        """Answer a request, with the place up to which this machine has applied its log."""
        self.outbox.append((source, ("reply", number, answer, self.applied)))

    def reply_follow(self, source, number):
        """Answer a request with the machine that may know better."""
        self.reply(source, number, ("follow", self.agreement.leader))

    def handle(self, source, number, command):
        """Handle a request: answer it now, or let it wait for the log or for a round."""
        self.check_known(command)
        word = command[0]
        if word == "near":
            self.reply(source, number, self.near(command[1], command[2], command[3]))
        elif word in ("pull", "have") or (word == "map" and not isinstance(command[1], tuple)):
            self.reply(source, number, self.told(command))
        elif self.agreement.part != LEADER:
            self.reply_follow(source, number)
        elif word == "read":
            self.begin_read(source, number, command[1])
        else:
            self.put_into_log(source, number, command)

    def check_known(self, command):
        """Raise MachineError for a command that is unknown here."""
        sizes = dict(MAP_COMMANDS) if self.group == MAPS else dict(COMMANDS)
        word = command[0] if len(command) > 0 else None
        if word not in sizes or len(command) != sizes[word]:
            raise MachineError("an unknown message")
        if self.group == MAPS and word == "ask" and command[3][:1] not in (("change",), ("map",)):
            raise MachineError("an unknown message")

    def check_operations(self, command):
        """Raise AskError for an operation that is none."""
        if self.group != MAPS and command[0] == "ask":
            check_operation(command[3])
        elif command[0] == "prepare":
            for operation in command[3]:
                check_operation(operation)

    def told(self, command):
        """Return the answer to a command that every machine of the group answers by what it has applied."""
        word = command[0]
        if word == "pull":
            return self.book.shown_shard(command[1], command[2])
        if word == "have":
            return self.book.has_shard(command[1], command[2])
        if self.group == MAPS:
            return self.book.answer_to(command)
        return ("map", self.book.old_map if command[1] == self.book.old_map[0] else self.book.map)

    def near(self, key, place, number):
        """Return the answer to a near read: what is here, if the place is applied and the map is not an earlier one."""
        if self.applied < place or self.book.map[0] < number:
            return ("follow", None)
        answer = self.book.read(key)
        if answer[0] == "value":
            return ("near", answer[1], self.applied)
        return answer

    def put_into_log(self, source, number, command):
        """Put a command into the log, and let its request wait until that is applied."""
        # Every machine of the group applies what stands in the log, so nothing that fails may come into it.
        self.check_operations(command)
        try:
            place = self.agreement.propose(command)
        except MachineError:
            self.reply_follow(source, number)
            return
        self.give_up(place)
        self.waiting[place] = (source, number, self.agreement.journal.term)

    def give_up(self, place):
        """Answer a request that waits for a place, if there is one, without what became of it."""
        if place in self.waiting:
            source, number, _ = self.waiting.pop(place)
            self.reply_follow(source, number)

    def begin_read(self, source, number, key):
        """Let a read wait until the machine knows that it still leads."""
        check_key(key)
        try:
            place, turn = self.agreement.begin_read()
        except MachineError:
            self.reply_follow(source, number)
            return
        self.reads.append((source, number, key, place, turn, self.agreement.journal.term))
        self.serve_reads()

    def go_on(self):
        """Apply what is committed, serve the reads that may be, and let a snapshot stand for a log that is long."""
        self.take_base()
        while self.applied < self.agreement.committed:
            self.apply_next()
        self.serve_reads()
        if self.applied - self.agreement.journal.base >= self.limit:
            self.agreement.compact(self.applied, self.book.make_image())

    def take_base(self):
        """Hold the journal's snapshot if it tells of more than what is applied."""
        journal = self.agreement.journal
        if journal.base <= self.applied:
            return
        self.book.install(journal.image)
        self.applied = journal.base
        for place in sorted(self.waiting):
            # The snapshot does not tell the answers that were given on the way.
            if place <= self.applied:
                self.give_up(place)

    def apply_next(self):
        """Apply the next entry, and answer the request that waits for it."""
        entry = self.agreement.journal.entry(self.applied + 1)
        answer = self.book.apply(entry.command)
        self.applied = self.applied + 1
        if self.applied not in self.waiting:
            return
        source, number, term = self.waiting.pop(self.applied)
        if term == entry.term:
            self.reply(source, number, answer)
        else:
            self.reply_follow(source, number)

    def serve_reads(self):
        """Answer the reads whose round is confirmed and whose place is applied; others cannot be served any more."""
        left = []
        for read in self.reads:
            source, number, key, place, turn, term = read
            if self.agreement.part != LEADER or self.agreement.journal.term != term:
                self.reply_follow(source, number)
            elif self.applied >= place and self.agreement.is_confirmed(turn, term):
                self.reply(source, number, self.book.read(key))
            else:
                left.append(read)
        self.reads = left

    def ask_others(self):
        """Ask for shards that lack, whether frozen ones have come, or for the next map if nothing is under way."""
        keeper = self.book
        number = keeper.map[0]
        lacking = keeper.lacking()
        frozen = keeper.frozen()
        for shard in lacking:
            self.ask(keeper.members_before(shard), ("pull", shard, number))
        for shard in frozen:
            self.ask(keeper.members_now(shard), ("have", shard, number))
        if lacking == [] and frozen == []:
            self.ask(self.map_members, ("map", number + 1))

    def ask(self, members, command):
        """Ask one of some machines, another one each time."""
        if len(members) == 0:
            return
        self.asked = self.asked + 1
        target = members[self.ticks // ASK_TICKS % len(members)]
        self.outbox.append((target, ("request", self.name, self.asked, command)))

    def use_reply(self, answer):
        """Put into the log what an answer of another group lets the own one do next.

        Answers tell what they are about, so one that comes late, or twice, does no harm.
        """
        if self.group == MAPS or self.agreement.part != LEADER:
            return
        command = self.next_command(answer)
        if command is not None and not self.is_under_way(command):
            self.agreement.propose(command)

    def next_command(self, answer):
        """Return the command that an answer leads to, None if it is of no use now."""
        keeper = self.book
        word = answer[0]
        if word == "map" and answer[1][0] == keeper.map[0] + 1 and keeper.lacking() == [] and keeper.frozen() == []:
            return ("map", answer[1])
        if word == "shard" and answer[2] == keeper.map[0] and answer[1] in keeper.lacking():
            return ("install", answer[1], answer[2], answer[3])
        if word == "have" and answer[2] == keeper.map[0] and answer[1] in keeper.frozen():
            return ("drop", answer[1], answer[2])
        return None

    def is_under_way(self, command):
        """Return True if a command stands in the log and is not yet applied."""
        journal = self.agreement.journal
        return any([entry.command == command for entry in journal.entries[self.applied - journal.base:]])
