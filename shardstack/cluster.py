"""Cluster: machines, clients and a net, moved by drawn events; and a fair end in which everything is answered."""

from shardstack.client import PATIENCE, PAUSE, Client
from shardstack.disk import Disk
from shardstack.errors import MachineError, StoreError
from shardstack.journal import MEMBERS
from shardstack.net import Net
from shardstack.raft import LEADER
from shardstack.server import Server
from shardstack.shards import MAPS

EVENTS = (
    "deliver", "deliver", "deliver", "deliver", "deliver", "tick", "tick", "client", "drop", "repeat", "crash", "start",
    "cut", "heal", "arm", "tick",
)

ADMIN = "admin"

# With so many messages on their way none is repeated.
MANY_MESSAGES = 300
MOST_KEPT = 40
PARTS = 2
FUSES = 7


class Administrator:
    """A client that asks the maps' group for changes.

    An event is (number, change, time of asking, time of the answer or None, answer or None). Changes that are wanted
    while another one is under way wait for it.
    """

    def __init__(self, members):
        self.name = ADMIN
        self.map_members = tuple(members)
        self.events = []
        self.asked = 0
        self.turn = 0
        self.time = 0
        self.serial = 0
        self.is_reborn = False
        self.changes = []
        self.leader = None
        self.awaits = False
        self.patience = 0
        self.outbox = []

    def want(self, change):
        """Begin to ask for a change; one that is still asked for is not begun anew."""
        if self.changes[-1:] == [change]:
            return
        self.changes.append(change)
        if len(self.changes) == 1:
            self.begin()

    def begin(self):
        """Ask for the first change that waits."""
        self.events.append((len(self.events) + 1, self.changes[0], self.time, None, None))
        self.serial = self.serial + 1
        self.ask()

    def is_done(self):
        """Return True if nothing is asked for, or it is answered."""
        return self.changes == []

    def ask(self):
        """Ask the leader, or if it is not known the member whose turn it is."""
        self.patience = PATIENCE
        target = self.leader
        if target is None:
            if len(self.map_members) == 0:
                return
            target = self.map_members[self.turn % len(self.map_members)]
        self.asked = self.asked + 1
        self.awaits = True
        command = ("ask", self.name, self.serial, ("change", self.changes[0]))
        self.outbox.append((target, ("request", self.name, self.asked, command)))

    def go_on(self, time):
        """Let a turn pass: ask again for what was not answered for long."""
        self.time = time
        self.patience = self.patience - 1
        if self.is_done() or self.patience > 0:
            return
        if self.awaits:
            self.leader = None
            self.turn = self.turn + 1
        self.ask()

    def receive(self, message, time):
        """Use an answer."""
        if message[0] != "reply" or message[1] != self.asked or not self.awaits:
            return
        answer = message[2]
        self.time = time
        self.awaits = False
        if answer[0] == "follow":
            self.follow(answer[1])
        elif answer[0] == "old" or self.is_reborn:
            # The serial was used by an earlier administrator, whose last answer comes behind those that are old.
            self.is_reborn = answer[0] == "old"
            self.serial = self.serial + 1
            self.ask()
        else:
            number, change, asked, _, _ = self.events[-1]
            self.events[-1] = (number, change, asked, time, answer)
            del self.changes[0]
            if not self.is_done():
                self.begin()

    def follow(self, leader):
        """Ask the leader that a machine named, or another machine later."""
        self.patience = PAUSE
        if leader is None:
            self.turn = self.turn + 1
        elif leader != self.leader:
            self.leader = leader
            self.ask()

    def take_outbox(self):
        """Return the (target, message) pairs to be sent, and empty the outbox."""
        found = self.outbox
        self.outbox = []
        return found


class Cluster:
    """Machines by name, disks by name, clients by name, the net, and how much time has passed."""

    def __init__(self, groups, seed=1, limit=12):
        self.groups = {group: tuple(groups[group]) for group in groups}
        self.seed = seed
        self.limit = limit
        self.net = Net()
        self.time = 0
        self.disks = {}
        self.servers = {}
        self.clients = {}
        # What a machine takes for its group's members before its disk tells them.
        self.first_members = {}
        self.map_members = self.groups.get(MAPS, ())
        self.admin = Administrator(self.map_members)
        for group in sorted(self.groups):
            for name in self.groups[group]:
                self.place_machine(name, self.groups[group])

    def place_machine(self, name, members):
        """Let a new machine come up."""
        if name not in self.disks:
            self.disks[name] = Disk()
            self.first_members[name] = members
        self.start(name)

    def group_of(self, name):
        """Return the group of a machine; raise MachineError for an unknown one."""
        for group in sorted(self.groups):
            if name in self.groups[group]:
                return group
        raise MachineError("there is no such machine")

    def names(self):
        """Return the names of all machines, in ascending order."""
        return sorted(self.disks)

    def start(self, name):
        """Let a machine come up, with what its disk holds; raise MachineError if it is up."""
        if name in self.servers:
            raise MachineError("the machine is up")
        group = self.group_of(name)
        disk = self.disks[name]
        disk.restart()
        try:
            server = Server(name, group, self.first_members[name], self.map_members, disk, self.seed, self.limit)
        except StoreError:
            disk.crash(0)
            raise
        self.servers[name] = server

    def crash(self, name, many=0):
        """Let a machine go down, so many of its disk's unsynced bytes being kept; raise MachineError if it is down."""
        if name not in self.servers:
            raise MachineError("the machine is down")
        self.disks[name].crash(many)
        del self.servers[name]
        self.net.forget(name)

    def add_client(self, name, wishes):
        """Add a client with its wishes; raise MachineError for a name that is taken."""
        if name in self.clients or name in self.disks or name == ADMIN:
            raise MachineError("the name is taken")
        self.clients[name] = Client(name, self.map_members, wishes)

    def guarded(self, name, work):
        """Let a machine work; it goes down if its disk does, and keeps some of what waited, by the time.

        work is called without arguments. What the machine has to send then is sent.
        """
        if name not in self.servers:
            raise MachineError("the machine is down")
        server = self.servers[name]
        try:
            work()
        except StoreError:
            self.crash(name, self.time % MOST_KEPT)
            return
        self.send_all(name, server.take_outbox())

    def send_all(self, source, rows):
        """Put (target, message) rows on their way."""
        for target, message in rows:
            self.net.send(source, target, message)

    def tick(self, name):
        """Let a tick pass for a machine that is up."""
        if name in self.servers:
            server = self.servers[name]
            self.guarded(name, lambda: server.tick())

    def hand_over(self, target, message):
        """Let a message arrive; one to a machine that is down is lost."""
        if target in self.servers:
            server = self.servers[target]
            self.guarded(target, lambda: server.receive(message))
        elif target in self.clients:
            self.clients[target].receive(message, self.time)
            self.send_all(target, self.clients[target].take_outbox())
        elif target == ADMIN:
            self.admin.receive(message, self.time)
            self.send_all(target, self.admin.take_outbox())

    def move_client(self, name):
        """Let a client go on."""
        client = self.clients[name]
        client.go_on(self.time)
        self.send_all(name, client.take_outbox())

    def move_admin(self):
        """Let the administrator go on."""
        self.admin.go_on(self.time)
        self.send_all(ADMIN, self.admin.take_outbox())

    def act(self, choice):
        """Carry out an event that a number from 0 on tells: its class by 16, what it is about by the rest."""
        word = EVENTS[choice % len(EVENTS)]
        rest = choice // len(EVENTS)
        self.time = self.time + 1
        if word in ("deliver", "drop", "repeat"):
            self.act_on_message(word, rest)
        elif word == "client":
            self.act_on_client(rest)
        elif word == "heal":
            self.net.heal()
        elif len(self.disks) > 0:
            self.act_on_machine(word, self.names()[rest % len(self.disks)], rest)

    def act_on_message(self, word, rest):
        """Carry out an event with a message, if one is on its way."""
        many = len(self.net.messages)
        if many == 0:
            return
        if word == "deliver":
            _, target, message = self.net.take(rest % many)
            self.hand_over(target, message)
        elif word == "drop":
            self.net.drop(rest % many)
        elif many < MANY_MESSAGES:
            self.net.repeat(rest % many)

    def act_on_client(self, rest):
        """Let a client go on, if there is one, and the administrator with it."""
        if len(self.clients) > 0:
            self.move_client(sorted(self.clients)[rest % len(self.clients)])
        self.move_admin()

    def act_on_machine(self, word, name, rest):
        """Carry out an event with a machine, if it can be."""
        is_up = name in self.servers
        if word == "tick":
            self.tick(name)
        elif word == "crash" and is_up:
            self.crash(name, rest % MOST_KEPT)
        elif word == "start" and not is_up:
            self.start(name)
        elif word == "cut":
            self.net.cut((name,), 1 + rest % PARTS)
        elif word == "arm" and is_up:
            self.disks[name].arm(rest % FUSES)

    def settle(self, most=4000):
        """Heal the net, start all machines, and go round fairly until all clients are done; raise MachineError.

        In a round each message that is on its way arrives, each machine has a tick, and each client goes on. Returns
        how many rounds it took.
        """
        self.net.heal()
        for name in self.names():
            # A fuse that still burns would let a machine go down in the midst of a fair end.
            self.disks[name].arm(None)
            if name not in self.servers:
                self.start(name)
        for many in range(most + 1):
            if self.is_done():
                return many
            if many < most:
                self.go_round()
        raise MachineError("no answer comes")

    def is_done(self):
        """Return True if all clients are done, and the administrator is."""
        return self.admin.is_done() and all([self.clients[name].is_done() for name in self.clients])

    def go_round(self):
        """Let each message that is on its way arrive, each machine have a tick, and each client go on."""
        self.time = self.time + 1
        arriving = [self.net.take(0) for _ in range(len(self.net.messages))]
        for _, target, message in arriving:
            self.hand_over(target, message)
        for name in self.names():
            self.tick(name)
        for name in sorted(self.clients):
            self.move_client(name)
        self.move_admin()

    def rounds(self, many):
        """Let so many rounds pass."""
        for _ in range(many):
            self.go_round()

    def add_machine(self, group, name):
        """Add a machine to a group's machines; it is no member of the group yet; raise MachineError."""
        if name in self.disks or name in self.clients or name == ADMIN or group not in self.groups:
            raise MachineError("the name is taken, or there is no such group")
        self.groups[group] = self.groups[group] + (name,)
        self.place_machine(name, ())

    def leader_of(self, group):
        """Return the machine that leads a group in the latest term, None for none."""
        found = None
        latest = -1
        for name in sorted(self.servers):
            agreement = self.servers[name].agreement
            if self.servers[name].group == group and agreement.part == LEADER and agreement.journal.term > latest:
                found = name
                latest = agreement.journal.term
        return found

    def has_members(self, group, members):
        """Return True if a group is led by a machine that knows some members as committed, and no others."""
        name = self.leader_of(group)
        if name is None:
            return False
        agreement = self.servers[name].agreement
        told = agreement.journal.members_at(agreement.committed)
        return sorted(told) == sorted(members) and sorted(agreement.members()) == sorted(members)

    def change_members(self, group, members, most=300):
        """Go round until a group's members are some that differ by one; raise MachineError if that does not come.

        Returns how many rounds it took.
        """
        for many in range(most + 1):
            if self.has_members(group, members):
                return many
            if many < most:
                name = self.leader_of(group)
                if name is not None:
                    self.propose_members(name, members)
                self.go_round()
        raise MachineError("the members do not change")

    def propose_members(self, name, members):
        """Let a leader put members into its log, unless others are under way, or it cannot."""
        if name not in self.servers:
            return
        agreement = self.servers[name].agreement
        try:
            self.guarded(name, lambda: agreement.propose((MEMBERS, tuple(members))))
        except MachineError:
            # A leader refuses what cannot be now.
            return

    def history(self):
        """Return (client, wish's number, wish, asked, answered or None, answer) of all events, by time of asking."""
        rows = [(name,) + event for name in sorted(self.clients) for event in self.clients[name].events]
        return sorted(rows, key=lambda row: (row[3], row[0], row[1]))

    def change_map(self, change, most=4000):
        """Ask the maps' group for a change of the map, and go round until it is answered; return the answer."""
        self.admin.want(change)
        for many in range(most + 1):
            if self.admin.is_done():
                return self.admin.events[-1][4]
            if many < most:
                self.go_round()
        raise MachineError("no answer comes")
