"""Point [5]: machines of one group together over a net that loses, repeats and reorders, with disks that go down."""

import random
import unittest

from shardstack.disk import Disk
from shardstack.errors import MachineError, StoreError
from shardstack.journal import read_journal
from shardstack.net import Net
from shardstack.raft import Agreement


class Crowd:
    """Machines of one group, and all that is known of what they committed."""

    def __init__(self, test, members, seed, extra=()):
        self.test = test
        self.draw = random.Random(seed)
        self.members = members
        self.net = Net()
        self.disks = {name: Disk() for name in members + extra}
        self.up = {}
        self.seed = seed
        self.leaders = {}
        self.committed = {}
        self.reads = []
        self.confirmed = 0
        self.counted = 0
        for name in self.disks:
            self.start(name)

    def start(self, name):
        disk = self.disks[name]
        if disk.down:
            disk.restart()
        members = self.members if name in self.members else ()
        self.up[name] = Agreement(name, read_journal(disk, members), self.seed)

    def crash(self, name):
        self.disks[name].crash(self.draw.randrange(90))
        del self.up[name]

    def work(self, name, task):
        """Let a machine work and send what it has to send, unless it goes down."""
        machine = self.up[name]
        try:
            task(machine)
        except StoreError:
            self.test.assertTrue(self.disks[name].down)
            self.crash(name)
            return
        for target, message in machine.take_outbox():
            self.net.send(name, target, message)
        self.check(machine)

    def deliver(self, place):
        _, target, message = self.net.take(place)
        if target in self.up:
            self.work(target, lambda machine: machine.receive(message))

    def propose(self, name):
        self.counted += 1
        command = ("x", self.counted)

        def task(machine):
            if machine.part == "leader":
                machine.propose(command)
        self.work(name, task)

    def change(self, name):
        """Propose other members, if this may be."""
        def task(machine):
            old = machine.members()
            one = self.draw.choice(sorted(self.disks))
            new = tuple(sorted(old + (one,))) if one not in old else tuple(other for other in old if other != one)
            if new:
                try:
                    machine.propose(("members", new))
                except MachineError:
                    pass
        self.work(name, task)

    def read(self, name):
        def task(machine):
            known = max(self.committed, default=0)
            try:
                number, turn = machine.begin_read()
            except MachineError:
                return
            self.reads.append((name, machine, number, turn, machine.journal.term, known))
        self.work(name, task)

    def compact(self, name):
        """Let a snapshot tell all that was committed up to some number."""
        def task(machine):
            if machine.committed > machine.journal.base:
                number = self.draw.randrange(machine.journal.base + 1, machine.committed + 1)
                machine.compact(number, tuple(self.committed[at] for at in range(1, number + 1)))
        self.work(name, task)

    def check(self, machine):
        """What one has committed no other one has otherwise, and at most one leads in a term."""
        journal = machine.journal
        if machine.part == "leader":
            self.test.assertEqual(self.leaders.setdefault(journal.term, machine.name), machine.name)
        self.test.assertLessEqual(machine.committed, journal.last())
        for number in range(journal.base + 1, machine.committed + 1):
            row = journal.entry(number).shown()
            self.test.assertEqual(self.committed.setdefault(number, row), row)
        if journal.base > 0:
            self.test.assertEqual(journal.image, tuple(self.committed[at] for at in range(1, journal.base + 1)))
            self.test.assertEqual(journal.base_term, self.committed[journal.base][0])
        left = []
        for read in self.reads:
            name, reader, number, turn, term, known = read
            if self.up.get(name) is reader and reader.is_confirmed(turn, term):
                self.test.assertGreaterEqual(number, known)
                self.confirmed += 1
            elif self.up.get(name) is reader and reader.journal.term == term and reader.part == "leader":
                left.append(read)
        self.reads = left

    def check_logs(self):
        """Logs with a same entry are the same before."""
        journals = [machine.journal for machine in self.up.values()]
        for at, one in enumerate(journals):
            for other in journals[at + 1:]:
                same = False
                for number in range(min(one.last(), other.last()), max(one.base, other.base), -1):
                    same = same or one.term_at(number) == other.term_at(number)
                    if same:
                        self.test.assertEqual(one.entry(number).shown(), other.entry(number).shown())

    def event(self, members_change):
        draw = self.draw
        name = draw.choice(sorted(self.disks))
        word = draw.choices(("deliver", "tick", "propose", "read", "drop", "repeat", "crash", "start", "arm", "cut",
                             "heal", "compact", "change"), (60, 25, 8, 4, 4, 4, 1, 8, 2, 1, 4, 2, 2))[0]
        many = len(self.net.messages)
        if word == "deliver" and many:
            for _ in range(4):
                if self.net.messages:
                    self.deliver(draw.randrange(len(self.net.messages)))
        elif word == "drop" and many:
            self.net.drop(draw.randrange(many))
        elif word == "repeat" and 0 < many < 200:
            self.net.repeat(draw.randrange(many))
        elif word == "cut":
            self.net.cut((name,), draw.randrange(1, 3))
        elif word == "heal":
            self.net.heal()
        elif word == "start" and name not in self.up:
            self.start(name)
        elif name in self.up:
            self.local_event(word, name, members_change)

    def local_event(self, word, name, members_change):
        if word == "tick":
            for _ in range(2):
                if name in self.up:
                    self.work(name, lambda machine: machine.tick())
        elif word == "propose":
            self.propose(name)
        elif word == "read":
            self.read(name)
        elif word == "crash":
            self.crash(name)
        elif word == "arm":
            self.disks[name].arm(self.draw.randrange(7))
        elif word == "compact":
            self.compact(name)
        elif word == "change" and members_change:
            self.change(name)

    def go_round(self):
        """Let each message arrive, and each machine have a tick."""
        for _ in range(len(self.net.messages)):
            self.deliver(0)
        for name in sorted(self.up):
            self.work(name, lambda machine: machine.tick())

    def settle(self):
        """Let all come up, and a last entry be committed by all members."""
        self.net.heal()
        for name in sorted(self.disks):
            self.disks[name].arm(None)
            if name not in self.up:
                self.start(name)
        before = self.counted
        for number in range(600):
            self.go_round()
            machine = max(self.up.values(), key=lambda one: (one.part == "leader", one.journal.term))
            if machine.part != "leader":
                continue
            if number % 10 == 9:
                self.propose(machine.name)
            ends = {self.up[name].committed for name in machine.members()}
            if number % 10 == 8 and number > 60 and ends == {machine.journal.last()}:
                told = [command[1] for _, command in self.committed.values() if command[0] == "x"]
                self.test.assertGreater(max(told), before)
                self.rounds = number
                return
        self.test.fail("nothing is committed by all")


class Together(unittest.TestCase):
    def run_one(self, members, seed, many, extra=(), members_change=False):
        crowd = Crowd(self, members, seed, extra)
        for number in range(many):
            crowd.event(members_change)
            if number % 25 == 0:
                crowd.check_logs()
        crowd.settle()
        crowd.check_logs()
        return crowd

    def run_many(self, members, seeds, many, extra=(), members_change=False):
        crowds = [self.run_one(members, seed, many, extra, members_change) for seed in seeds]
        self.assertGreater(sum(len(crowd.committed) for crowd in crowds), 12 * len(crowds))
        self.assertGreater(sum(len(crowd.leaders) for crowd in crowds), 3 * len(crowds))
        self.assertGreater(sum(crowd.confirmed for crowd in crowds), 2 * len(crowds))

    def test_three(self):
        self.run_many(("a", "b", "c"), range(1, 31), 1500)

    def test_five(self):
        self.run_many(("a", "b", "c", "d", "e"), range(101, 121), 2000)

    def test_two(self):
        self.run_many(("a", "b"), range(201, 206), 1000)

    def test_members_that_change(self):
        self.run_many(("a", "b", "c"), range(301, 331), 2000, ("d", "e"), True)


if __name__ == "__main__":
    unittest.main()
