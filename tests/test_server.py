"""Point [10]: messages, what a machine answers that leads and one that does not, reads, snapshots of the log."""

import unittest

from helpers import NAMES

from shardstack.disk import Disk
from shardstack.errors import AskError, MachineError, StoreError
from shardstack.keeper import Keeper
from shardstack.raft import Agreement
from shardstack.server import Server
from shardstack.shards import MapBook, changed_map, first_map, shard_of

KEY, SAME, OTHER = "a", "i", "b"
DEAL = ("user", 3, 1, 1)


def maps(*changes):
    """Return what each map shows, from the first one on."""
    found = [first_map()]
    for change in changes:
        found.append(changed_map(found[-1], change))
    return [one.shown() for one in found]


SHOWN = maps(("join", "g", NAMES), ("join", "h", ("h1",)), ("leave", "h"))


class Group:
    """Machines of a group that hear each other, and all that they send to others."""

    def __init__(self, names=NAMES, group="g", limit=1000, map_members=()):
        self.names = names
        self.group = group
        self.limit = limit
        self.map_members = map_members
        self.disks = {name: Disk() for name in names}
        self.servers = {}
        self.deaf = ()
        self.sent = []
        for name in names:
            self.start(name)

    def start(self, name):
        self.servers[name] = Server(name, self.group, self.names, self.map_members, self.disks[name], 5, self.limit)

    def deliver(self):
        """Let all messages within the group arrive, but to and from those that are deaf."""
        pending = True
        while pending:
            pending = []
            for name in sorted(self.servers):
                pending.extend((name, target, message) for target, message in self.servers[name].take_outbox())
            for source, target, message in pending:
                if target not in self.names:
                    self.sent.append((source, target, message))
                elif source not in self.deaf and target not in self.deaf and target in self.servers:
                    self.servers[target].receive(message)

    def tick(self, many=1, names=None):
        for _ in range(many):
            for name in names or sorted(self.servers):
                self.servers[name].tick()
            self.deliver()

    def elect(self, name):
        """Let a machine lead, and all others hear of it."""
        while self.servers[name].agreement.part != "leader":
            self.tick(1, (name,))
        self.tick(6, (name,))
        self.sent = []
        return self.servers[name]

    def ask(self, name, *command, number=1):
        """Let a user ask a machine, and return the answer and its place, None if there is none yet."""
        self.servers[name].receive(("request", "user", number, command))
        self.deliver()
        return self.heard(number)

    def heard(self, number=1):
        found = [message[2:] for _, target, message in self.sent
                 if target == "user" and message[:2] == ("reply", number)]
        self.sent = [one for one in self.sent if one[1] != "user"]
        assert len(found) <= 1
        return found[0] if found else None


def keeping(names=NAMES, limit=1000, many=1):
    """Return a group that leads by its first machine and works by a map."""
    group = Group(names, "g", limit)
    group.elect(names[0])
    for shown in SHOWN[1:many + 1]:
        assert group.ask(names[0], "map", shown)[0] == ("done",)
    group.tick(3)
    return group


class Fields(unittest.TestCase):
    def test_new(self):
        server = Server("a", "g", NAMES, ("m",), Disk(), 1)
        self.assertEqual((server.name, server.group, server.applied, server.waiting), ("a", "g", 0, {}))
        self.assertIsInstance(server.agreement, Agreement)
        self.assertIsInstance(server.book, Keeper)
        self.assertEqual((server.agreement.name, server.agreement.members(), server.book.group), ("a", NAMES, "g"))
        self.assertIsInstance(Server("m", "maps", ("m",), ("m",), Disk(), 1).book, MapBook)
        self.assertEqual(server.take_outbox(), [])

    def test_the_log_of_a_group(self):
        group = Group()
        server = group.servers["a"]
        while server.agreement.part != "candidate":
            server.tick()
        self.assertEqual(server.take_outbox(), [("b", ("log", ("ask", 1, "a", 0, 0))), ("c", ("log", ("ask", 1, "a", 0, 0)))])
        server.receive(("log", ("vote", 1, "b", True)))
        self.assertEqual(server.agreement.part, "leader")
        self.assertEqual([message[0] for _, message in server.take_outbox()], ["log", "log"])

    def test_damaged_disk(self):
        disk = Disk()
        disk.append(("entry", 7, 1, ("nothing",)))
        disk.sync()
        with self.assertRaises(StoreError):
            Server("a", "g", NAMES, (), disk, 1)


class Requests(unittest.TestCase):
    COMMANDS = (("ask", "user", 1, ("put", KEY, "1")), ("map", SHOWN[1]), ("install", 1, 1, ()), ("drop", 1, 1),
                ("prepare", DEAL, 1, (("get", KEY),)), ("decide", DEAL, 1, True), ("finish", DEAL, 1, True),
                ("members", ("a", "b")), ("read", KEY))

    def test_who_does_not_lead(self):
        group = Group()
        for command in self.COMMANDS:
            self.assertEqual(group.ask("b", *command), (("follow", None), 0))
        group.elect("a")
        for name in ("b", "c"):
            for command in self.COMMANDS:
                self.assertEqual(group.ask(name, *command), (("follow", "a"), 1))
        self.assertEqual(group.servers["a"].agreement.journal.last(), 1)

    def test_who_leads(self):
        group = Group()
        group.elect("a")
        self.assertEqual(group.ask("a", "ask", "user", 1, ("put", KEY, "1")), (("moved",), 2))
        self.assertEqual(group.ask("a", "map", SHOWN[1]), (("done",), 3))
        self.assertEqual(group.ask("a", "map", SHOWN[1]), (("old",), 4))
        self.assertEqual(group.ask("a", "ask", "user", 1, ("put", KEY, "1")), (("done",), 5))
        self.assertEqual(group.ask("a", "ask", "user", 2, ("append", KEY, "2")), (("value", "12"), 6))
        self.assertEqual(group.ask("a", "ask", "user", 2, ("append", KEY, "2")), (("value", "12"), 7))
        self.assertEqual(group.ask("a", "read", KEY), (("value", "12"), 7))
        self.assertEqual(group.ask("a", "prepare", DEAL, 1, (("put", KEY, "3"),)), (("ready",), 8))
        self.assertEqual(group.ask("a", "read", KEY), (("locked", DEAL), 8))
        self.assertEqual(group.ask("a", "ask", "user", 3, ("get", KEY)), (("locked", DEAL), 9))
        self.assertEqual(group.ask("a", "decide", DEAL, 1, True), (("decided", True), 10))
        self.assertEqual(group.ask("a", "finish", DEAL, 1, True), (("over", (("done",),)), 11))
        self.assertEqual(group.ask("a", "ask", "user", 3, ("get", KEY)), (("value", "3"), 12))
        self.assertEqual(group.ask("a", "install", 1, 1, ()), (("old",), 13))
        self.assertEqual(group.ask("a", "drop", 1, 1), (("old",), 14))
        self.assertEqual(group.servers["a"].waiting, {})

    def test_the_place_is_that_of_the_entry(self):
        group = keeping()
        server = group.servers["a"]
        for number in range(1, 4):
            server.receive(("request", "user", number, ("ask", "user", number, ("append", KEY, "x"))))
        before = server.applied
        self.assertEqual(sorted(server.waiting), [before + 1, before + 2, before + 3])
        group.deliver()
        found = [message for _, target, message in group.sent if target == "user"]
        self.assertEqual(found, [("reply", number, ("value", "x" * number), before + number) for number in range(1, 4)])

    def test_no_answer_before_it_is_committed(self):
        group = keeping()
        group.deaf = ("b", "c")
        self.assertIsNone(group.ask("a", "ask", "user", 1, ("put", KEY, "1")))
        self.assertIsNone(group.ask("a", "read", KEY, number=2))
        group.deaf = ("c",)
        group.tick(3, ("a",))
        found = [message[1:3] for _, target, message in group.sent if target == "user"]
        self.assertEqual(sorted(found), [(1, ("done",)), (2, ("value", "1"))])

    def test_an_entry_of_another_leader_in_its_place(self):
        group = keeping()
        group.deaf = ("a",)
        self.assertIsNone(group.ask("a", "ask", "user", 1, ("put", KEY, "1")))
        place = group.servers["a"].agreement.journal.last()
        while group.servers["b"].agreement.part != "leader":
            group.tick(1, ("b",))
        group.tick(3, ("b",))
        self.assertEqual(group.ask("b", "ask", "other", 1, ("put", KEY, "2"), number=2), (("done",), place + 1))
        group.deaf = ()
        group.tick(6, ("b",))
        answer, _ = group.heard(1)
        self.assertEqual(answer, ("follow", "b"))
        self.assertEqual((group.servers["a"].waiting, group.servers["a"].book.read(KEY)), ({}, ("value", "2")))

    def test_a_snapshot_in_its_place(self):
        group = keeping(limit=4)
        group.deaf = ("a",)
        self.assertIsNone(group.ask("a", "ask", "user", 1, ("put", KEY, "1")))
        while group.servers["b"].agreement.part != "leader":
            group.tick(1, ("b",))
        group.tick(3, ("b",))
        for number in range(2, 14):
            group.ask("b", "ask", "other", number, ("put", KEY, str(number)), number=number)
        group.deaf = ()
        group.tick(6, ("b",))
        self.assertEqual(group.heard(1)[0], ("follow", "b"))
        self.assertEqual((group.servers["a"].waiting, group.servers["a"].book.read(KEY)), ({}, ("value", "13")))

    def test_unknown_messages(self):
        group = keeping()
        for server in group.servers.values():
            before = server.book.make_image(), server.agreement.journal.last(), server.applied
            for message in ((), ("other",), ("log",), ("log", ("other", 1)), ("log", ()), ("reply", 1, ("done",)),
                            ("request", "user", 1), ("request", "user", 1, ("other",)), ("request", "user", 1, ()),
                            ("request", "user", 1, ("ask", "user", 1)), ("request", "user", 1, ("read",)), (7, 1)):
                with self.assertRaises(MachineError):
                    server.receive(message)
            self.assertEqual((server.book.make_image(), server.agreement.journal.last(), server.applied), before)
            self.assertEqual(server.take_outbox(), [])

    def test_operations_that_are_none(self):
        group = keeping()
        server = group.servers["a"]
        before = server.book.make_image(), server.agreement.journal.last(), server.applied, server.agreement.turn
        for operation in ((), ("other", "a"), ("put", "a"), ("put", "%", "a"), ("all", (("get", KEY), ("get", OTHER)))):
            with self.assertRaises(AskError):
                group.ask("a", "ask", "user", 1, operation)
            self.assertEqual(group.ask("b", "ask", "user", 1, operation)[0], ("follow", "a"))
        for command in (("prepare", DEAL, 1, (("get", KEY), ("put", KEY))), ("read", ""), ("near", "%", 0, 0)):
            with self.assertRaises(AskError):
                group.ask("a", *command)
        self.assertEqual((server.book.make_image(), server.agreement.journal.last(), server.applied,
                          server.agreement.turn), before)
        self.assertEqual(server.take_outbox(), [])

    def test_a_request_whose_place_is_taken_by_another(self):
        group = keeping()
        group.deaf = ("a",)
        for number in (1, 2, 3):
            self.assertIsNone(group.ask("a", "ask", "user", number, ("put", KEY, "1"), number=number))
        place = group.servers["a"].agreement.journal.last() - 2
        while group.servers["b"].agreement.part != "leader":
            group.tick(1, ("b",))
        group.tick(3, ("b",))
        group.deaf = ()
        group.tick(6, ("b",))
        self.assertEqual(sorted(group.servers["a"].waiting), [place + 1, place + 2])
        self.assertEqual(group.heard(1)[0], ("follow", "b"))
        while group.servers["a"].agreement.part != "candidate":
            group.servers["a"].tick()
        group.deliver()
        self.assertEqual(group.heard(2)[0][0], "follow")
        group.deaf = ("b", "c")
        group.servers["a"].receive(("request", "user", 4, ("ask", "user", 4, ("put", KEY, "2"))))
        self.assertEqual(group.servers["a"].waiting[place + 2][:2], ("user", 4))
        group.deliver()
        self.assertEqual(group.heard(3)[0], ("follow", "a"))

    def test_members(self):
        group = keeping(("a", "b", "c"))
        self.assertEqual(group.ask("a", "members", ("a", "b", "c", "d", "e"))[0], ("follow", "a"))
        self.assertEqual(group.ask("a", "members", ("a", "b"))[0], ("done",))
        group.tick(3, ("a",))
        self.assertEqual(group.servers["b"].agreement.members(), ("a", "b"))
        group.deaf = ("b", "c")
        self.assertIsNone(group.ask("a", "members", ("a", "b", "c"), number=7))
        group.servers["a"].receive(("request", "user", 8, ("members", ("a",))))
        self.assertEqual(group.servers["a"].take_outbox()[-1][1][2], ("follow", "a"))

    def test_a_leader_that_goes(self):
        group = keeping()
        self.assertEqual(group.ask("a", "members", ("b", "c"))[0], ("done",))
        self.assertEqual(group.servers["a"].agreement.part, "follower")
        self.assertEqual(group.ask("a", "ask", "user", 1, ("get", KEY))[0], ("follow", None))


class Reads(unittest.TestCase):
    def test_before_something_is_committed_in_the_term(self):
        group = Group()
        group.deaf = NAMES
        server = group.servers["a"]
        while server.agreement.part != "candidate":
            server.tick()
        server.receive(("log", ("vote", server.agreement.journal.term, "b", True)))
        self.assertEqual(group.ask("a", "read", KEY), (("follow", "a"), 0))

    def test_begin_read(self):
        group = keeping(("a",))
        server = group.servers["a"]
        self.assertIsNone(server.begin_read("user", 4, KEY))
        self.assertEqual(server.take_outbox(), [("user", ("reply", 4, ("value", None), server.applied))])
        group = keeping()
        server = group.servers["a"]
        server.begin_read("user", 4, KEY)
        self.assertEqual([message[0] for _, message in server.take_outbox()], ["log", "log"])
        group.servers["b"].begin_read("user", 5, KEY)
        self.assertEqual(group.servers["b"].take_outbox(), [("user", ("reply", 5, ("follow", "a"), server.applied))])

    def test_a_read_waits_for_its_round(self):
        group = keeping()
        server = group.servers["a"]
        turn = server.agreement.turn
        server.receive(("request", "user", 1, ("read", KEY)))
        server.take_outbox()
        last = server.agreement.journal.last()
        server.receive(("log", ("accept", 1, "b", True, last, turn)))
        self.assertEqual(server.take_outbox(), [])
        server.receive(("log", ("accept", 1, "b", True, last, turn + 1)))
        self.assertEqual(server.take_outbox(), [("user", ("reply", 1, ("value", None), last))])

    def test_a_round_that_is_lost(self):
        group = keeping()
        group.deaf = ("b", "c")
        self.assertIsNone(group.ask("a", "read", KEY))
        group.deaf = ()
        group.tick(3, ("a",))
        self.assertEqual(group.heard()[0], ("value", None))

    def test_a_leader_that_was_replaced_serves_no_read(self):
        group = keeping()
        group.deaf = ("a",)
        while group.servers["b"].agreement.part != "leader":
            group.tick(1, ("b",))
        group.tick(3, ("b",))
        self.assertEqual(group.ask("b", "ask", "user", 1, ("put", KEY, "new"), number=2)[0], ("done",))
        self.assertEqual(group.servers["a"].agreement.part, "leader")
        self.assertIsNone(group.ask("a", "read", KEY))
        group.tick(9, ("a",))
        self.assertIsNone(group.heard())
        group.deaf = ()
        group.tick(6, ("b",))
        self.assertEqual(group.heard()[0][0], "follow")

    def test_a_leader_that_goes_serves_no_read(self):
        group = keeping()
        server = group.servers["a"]
        server.receive(("request", "user", 1, ("members", ("b", "c"))))
        last = server.agreement.journal.last()
        server.receive(("request", "user", 2, ("read", KEY)))
        server.take_outbox()
        for name in ("b", "c"):
            server.receive(("log", ("accept", 1, name, True, last, 0)))
        self.assertEqual(server.take_outbox(), [("user", ("reply", 1, ("done",), last)),
                                                ("user", ("reply", 2, ("follow", None), last))])

    def test_near(self):
        group = keeping()
        self.assertEqual(group.ask("a", "ask", "user", 1, ("put", KEY, "1"))[0], ("done",))
        group.tick(3, ("a",))
        place = group.servers["a"].applied
        for name in NAMES:
            self.assertEqual(group.ask(name, "near", KEY, place, 1), (("near", "1", place), place))
            self.assertEqual(group.ask(name, "near", KEY, 0, 0), (("near", "1", place), place))
            self.assertEqual(group.ask(name, "near", OTHER, place, 1), (("near", None, place), place))
            self.assertEqual(group.ask(name, "near", KEY, place + 1, 1), (("follow", None), place))
            self.assertEqual(group.ask(name, "near", KEY, place, 2), (("follow", None), place))
        group.deaf = ("c",)
        group.ask("a", "ask", "user", 2, ("put", KEY, "2"))
        group.tick(3, ("a",))
        self.assertEqual(group.ask("b", "near", KEY, place + 1, 1), (("near", "2", place + 1), place + 1))
        self.assertEqual(group.ask("c", "near", KEY, place + 1, 1), (("follow", None), place))
        self.assertEqual(group.ask("c", "near", KEY, place, 1), (("near", "1", place), place))

    def test_near_where_it_is_not_kept(self):
        group = keeping(many=2)
        key = next(one for one in ("k" + str(number) for number in range(99)) if shard_of(one) == 6)
        place = group.servers["a"].applied
        self.assertEqual(group.ask("a", "prepare", DEAL, 1, (("put", KEY, "1"),))[0], ("ready",))
        group.tick(3, ("a",))
        for name in NAMES:
            self.assertEqual(group.ask(name, "near", key, place, 1), (("moved",), place + 1))
            self.assertEqual(group.ask(name, "near", key, place, 2), (("moved",), place + 1))
            self.assertEqual(group.ask(name, "near", KEY, place, 2), (("locked", DEAL), place + 1))
        with self.assertRaises(AskError):
            group.ask("b", "near", "", 0, 0)


class Moves(unittest.TestCase):
    def test_pull_and_have(self):
        group = keeping(many=2)
        for name in NAMES:
            for number, shard in ((1, 4), (3, 4), (2, 0)):
                self.assertEqual(group.ask(name, "pull", shard, number)[0], ("old",))
            answer, place = group.ask(name, "pull", 4, 2)
            self.assertEqual(answer, ("shard", 4, 2, group.servers[name].book.shards[4].shown()))
            self.assertEqual(place, group.servers["a"].applied)
            self.assertEqual(group.ask(name, "have", 4, 2)[0], ("old",))
            self.assertEqual(group.ask(name, "have", 0, 2)[0], ("have", 0, 2))
            self.assertEqual(group.ask(name, "have", 0, 1)[0], ("have", 0, 1))
            self.assertEqual(group.ask(name, "have", 0, 3)[0], ("old",))
        group.ask("a", "drop", 4, 2)
        group.tick(3, ("a",))
        for name in NAMES:
            self.assertEqual(group.ask(name, "pull", 4, 2)[0], ("old",))

    def test_map(self):
        group = keeping(many=2)
        for name in NAMES:
            self.assertEqual(group.ask(name, "map", None)[0], ("map", SHOWN[2]))
            self.assertEqual(group.ask(name, "map", 1)[0], ("map", SHOWN[1]))

    def asked(self, group):
        """Return what a group's machines asked of others since the last time, and who asked."""
        found = [(source, target, message[3]) for source, target, message in group.sent if message[0] == "request"]
        group.sent = []
        return found

    def test_a_leader_asks_for_the_next_map(self):
        group = Group(NAMES, "g", 1000, ("m", "n"))
        group.elect("a")
        group.tick(12)
        found = self.asked(group)
        self.assertEqual({(source, command) for source, _, command in found}, {("a", ("map", 1))})
        self.assertEqual({target for _, target, _ in found}, {"m", "n"})
        for shown in (SHOWN[0], SHOWN[2], SHOWN[3]):
            group.servers["a"].receive(("reply", 1, ("map", shown), 0))
            group.tick()
            self.assertEqual(group.servers["a"].book.map, SHOWN[0])
        group.servers["b"].receive(("reply", 1, ("map", SHOWN[1]), 0))
        for _ in range(2):
            group.servers["a"].receive(("reply", 1, ("map", SHOWN[1]), 0))
        group.deliver()
        self.assertEqual(group.servers["a"].book.map, SHOWN[1])
        self.assertEqual([entry.command[0] for entry in group.servers["a"].agreement.journal.entries], ["nothing", "map"])
        self.asked(group)
        group.tick(3)
        self.assertEqual([command for _, _, command in self.asked(group)], [("map", 2)])

    def test_what_is_under_way_is_not_put_into_the_log_again(self):
        group = keeping(limit=2)
        server = group.servers["a"]
        self.assertGreater(server.agreement.journal.base, 0)
        last = server.agreement.journal.last()
        for _ in range(3):
            server.receive(("reply", 1, ("map", SHOWN[2]), 0))
        self.assertEqual(server.agreement.journal.last(), last + 1)
        group.deliver()
        for shard in (4, 4, 5, 5, 4):
            server.receive(("reply", 1, ("have", shard, 2), 0))
        self.assertEqual(server.agreement.journal.last(), last + 3)

    def test_a_leader_asks_whether_its_shards_have_come(self):
        group = keeping(many=2)
        self.asked(group)
        group.tick(3)
        self.assertEqual(self.asked(group), [("a", "h1", ("have", shard, 2)) for shard in range(4, 8)])
        server = group.servers["a"]
        for answer in (("old",), ("have", 4, 1), ("have", 0, 2), ("follow", None)):
            server.receive(("reply", 1, answer, 0))
            group.deliver()
            self.assertEqual(server.book.frozen(), [4, 5, 6, 7])
        for _ in range(2):
            server.receive(("reply", 1, ("have", 5, 2), 0))
        group.deliver()
        self.assertEqual(server.book.frozen(), [4, 6, 7])
        self.assertEqual(server.agreement.journal.entries[-1].command, ("drop", 5, 2))

    def test_a_leader_asks_for_shards_that_lack(self):
        group = Group(("h1",), "h", 1000, ("m",))
        server = group.elect("h1")
        for shown in SHOWN[1:3]:
            group.ask("h1", "map", shown)
        self.asked(group)
        group.tick(9)
        found = self.asked(group)
        self.assertEqual({command for _, _, command in found}, {("pull", shard, 2) for shard in range(4, 8)})
        self.assertEqual({(target, command[1]) for _, target, command in found},
                         {(name, shard) for name in NAMES for shard in range(4, 8)})
        other = keeping(many=2)
        for shard in (4, 4, 5, 6, 7):
            server.receive(("reply", 1, other.ask("b", "pull", shard, 2)[0], 0))
            group.deliver()
        self.assertEqual(server.book.lacking(), [])
        self.assertEqual([entry.command[:2] for entry in server.agreement.journal.entries[-4:]],
                         [("install", shard) for shard in range(4, 8)])
        group.tick(3)
        self.assertEqual([command for _, _, command in self.asked(group)], [("map", 3)])


class MapsGroup(unittest.TestCase):
    def test_changes_and_maps(self):
        group = Group(NAMES, "maps")
        group.elect("a")
        join = ("ask", "admin", 1, ("change", ("join", "g", NAMES)))
        self.assertEqual(group.ask("b", *join), (("follow", "a"), 1))
        self.assertEqual(group.ask("a", *join), (("map", SHOWN[1]), 2))
        self.assertEqual(group.ask("a", *join), (("map", SHOWN[1]), 3))
        self.assertEqual(group.ask("a", "ask", "admin", 2, ("change", ("leave", "g")))[0][0], "refused")
        self.assertEqual(group.ask("a", "ask", "admin", 3, ("change", ("join", "h", ("h1",)))), (("map", SHOWN[2]), 5))
        self.assertEqual(group.ask("a", "ask", "user", 1, ("map", 1)), (("map", SHOWN[1]), 6))
        self.assertEqual(group.ask("b", "ask", "user", 2, ("map", 1)), (("follow", "a"), 5))
        group.tick(3, ("a",))
        for name in NAMES:
            for number in range(3):
                self.assertEqual(group.ask(name, "map", number), (("map", SHOWN[number]), 6))
            for number in (None, 3, 99):
                self.assertEqual(group.ask(name, "map", number), (("map", SHOWN[2]), 6))

    def test_unknown(self):
        group = Group(("m",), "maps")
        group.elect("m")
        for command in (("read", KEY), ("near", KEY, 0, 0), ("drop", 1, 1), ("ask", "user", 1, ("put", KEY, "1"))):
            with self.assertRaises(MachineError):
                group.ask("m", *command)
        self.assertEqual(group.servers["m"].agreement.journal.last(), 1)

    def test_members(self):
        group = Group(NAMES, "maps")
        group.elect("a")
        self.assertEqual(group.ask("a", "members", ("a", "b")), (("done",), 2))
        self.assertEqual(group.servers["a"].agreement.members(), ("a", "b"))

    def test_it_asks_for_nothing(self):
        group = Group(("m",), "maps", 1000, ("m",))
        group.elect("m")
        group.tick(12)
        self.assertEqual(group.sent, [])

    def test_snapshots(self):
        group = Group(("m",), "maps", 5)
        group.elect("m")
        join = ("ask", "admin", 1, ("change", ("join", "g", NAMES)))
        group.ask("m", *join)
        for number in range(1, 20):
            group.ask("m", "ask", "user", number, ("map", None))
        group.disks["m"].crash(0)
        group.disks["m"].restart()
        group.start("m")
        self.assertGreater(group.servers["m"].applied, 10)
        self.assertEqual(group.ask("m", "map", None)[0], ("map", SHOWN[1]))
        group.elect("m")
        self.assertEqual(group.ask("m", *join)[0], ("map", SHOWN[1]))


class Snapshots(unittest.TestCase):
    def test_the_limit(self):
        for limit in (1, 3, 12):
            group = keeping(("a",), limit)
            server = group.servers["a"]
            journal = server.agreement.journal
            for number in range(1, 40):
                before = journal.base
                applied = server.applied
                group.ask("a", "ask", "user", number, ("append", KEY, "x"))
                self.assertEqual(journal.base, applied + 1 if applied + 1 - before >= limit else before)
                self.assertLessEqual(len(journal.entries), limit)
            self.assertEqual(server.book.read(KEY), ("value", "x" * 39))
        self.assertEqual(Server("a", "g", NAMES, (), Disk(), 1).limit, 12)

    def test_it_comes_up_as_it_was(self):
        for limit in (1, 4, 1000):
            group = keeping(("a",), limit)
            for number in range(1, 12):
                group.ask("a", "ask", "user", number, ("append", KEY, str(number % 10)))
            group.ask("a", "prepare", DEAL, 1, (("put", SAME, "1"),))
            before = group.servers["a"].book.make_image(), group.servers["a"].applied
            group.disks["a"].crash(0)
            group.disks["a"].restart()
            group.start("a")
            self.assertEqual(group.ask("a", "ask", "user", 11, ("append", KEY, "1"))[0], ("follow", None))
            group.elect("a")
            self.assertEqual((group.servers["a"].book.make_image(), group.servers["a"].applied), (before[0], before[1] + 1))
            self.assertEqual(group.ask("a", "ask", "user", 11, ("append", KEY, "1"))[0], ("value", "12345678901"))
            self.assertEqual(group.ask("a", "ask", "user", 10, ("append", KEY, "0"))[0], ("old",))
            self.assertEqual(group.ask("a", "read", SAME)[0], ("locked", DEAL))

    def test_one_who_was_away_gets_the_snapshot(self):
        group = keeping(NAMES, 4)
        group.deaf = ("c",)
        for number in range(1, 20):
            group.ask("a", "ask", "user", number, ("append", KEY, "x"))
        self.assertLess(group.servers["c"].applied, group.servers["a"].agreement.journal.base)
        group.deaf = ()
        group.tick(6, ("a",))
        for name in NAMES:
            self.assertEqual(group.servers[name].book.make_image(), group.servers["a"].book.make_image())
            self.assertLessEqual(len(group.servers[name].agreement.journal.entries), 4)

    def test_down_at_each_step(self):
        for steps in range(12):
            for many in (0, 25, 10 ** 6):
                self.run_down(steps, many)

    def run_down(self, steps, many):
        """Let the machine go down while it appends, and ask again until all is answered."""
        group = keeping(("a",), 3)
        group.disks["a"].arm(steps)
        for number in range(1, 7):
            answer = None
            while answer is None or answer[0][0] == "follow":
                try:
                    answer = group.ask("a", "ask", "user", number, ("append", KEY, str(number)), number=number)
                    if answer is None or answer[0][0] == "follow":
                        group.elect("a")
                except StoreError:
                    self.assertTrue(group.disks["a"].down)
                    group.sent = []
                    group.disks["a"].crash(many)
                    group.disks["a"].restart()
                    group.start("a")
            self.assertEqual(answer[0], ("value", "123456"[:number]))


if __name__ == "__main__":
    unittest.main()
