"""Point [12]: machines, clients and a net, moved by events that numbers tell, and a fair end."""

import unittest

from shardstack.cluster import EVENTS, Administrator, Cluster
from shardstack.errors import AskError, MachineError, StoreError
from shardstack.journal import read_journal
from shardstack.shards import shard_of

GROUPS = {"maps": ("m1", "m2", "m3"), "g": ("g1", "g2", "g3"), "h": ("h1", "h2", "h3")}
NAMES = ["g1", "g2", "g3", "h1", "h2", "h3", "m1", "m2", "m3"]
SMALL = {"maps": ("m1",), "g": ("g1",)}


def cluster(groups=GROUPS, seed=1, limit=12):
    """Return a cluster whose shards are all g's, and whose net is quiet."""
    found = Cluster(groups, seed, limit)
    answer = found.change_map(("join", "g", found.groups["g"]))
    assert answer[0] == "map"
    found.rounds(40)
    return found


def event(word, rest=0):
    """Return the least number that tells an event."""
    return EVENTS.index(word) + 16 * rest


def drain(one):
    """Lose all messages."""
    while one.net.messages:
        one.net.drop(0)


class Parts(unittest.TestCase):
    def test_events(self):
        self.assertEqual(EVENTS, ("deliver",) * 5 + ("tick", "tick", "client", "drop", "repeat", "crash", "start", "cut",
                                                     "heal", "arm", "tick"))

    def test_new(self):
        one = Cluster(GROUPS)
        self.assertEqual((one.groups, one.names(), one.time, one.clients), (GROUPS, NAMES, 0, {}))
        self.assertEqual((sorted(one.servers), sorted(one.disks)), (NAMES, NAMES))
        self.assertEqual((one.net.messages, one.admin.is_done(), one.history()), ([], True, []))
        for name in NAMES:
            server = one.servers[name]
            self.assertEqual((server.name, server.group), (name, one.group_of(name)))
            self.assertEqual(server.agreement.members(), GROUPS[one.group_of(name)])
            self.assertIs(server.agreement.journal.disk, one.disks[name])
            self.assertEqual(server.limit, 12)
        self.assertEqual(Cluster(GROUPS, 1, 5).servers["g1"].limit, 5)
        self.assertEqual([server.agreement.clock for server in one.servers.values()],
                         [server.agreement.clock for server in Cluster(GROUPS, 1).servers.values()])

    def test_the_seed_tells_the_draws(self):
        clocks = [[Cluster(GROUPS, seed).servers[name].agreement.clock for name in NAMES] for seed in (1, 1, 2)]
        self.assertEqual(clocks[0], clocks[1])
        self.assertNotEqual(clocks[0], clocks[2])

    def test_group_of(self):
        one = Cluster(GROUPS)
        self.assertEqual([one.group_of(name) for name in ("g1", "h3", "m2")], ["g", "h", "maps"])
        for name in ("x", "g", "admin"):
            with self.assertRaises(MachineError):
                one.group_of(name)

    def test_a_machine_in_two_groups(self):
        with self.assertRaises(MachineError):
            Cluster({"maps": ("m",), "g": ("a",), "h": ("a",)})

    def test_crash_and_start(self):
        one = Cluster(GROUPS)
        disk = one.disks["g1"]
        disk.append("x")
        waited = disk.waiting
        self.assertIsNone(one.crash("g1", 3))
        self.assertEqual((disk.kept, disk.down, "g1" in one.servers), (waited[:3], True, False))
        for name in ("g1", "x"):
            with self.assertRaises(MachineError):
                one.crash(name)
        self.assertIsNone(one.start("g1"))
        self.assertEqual((disk.kept, disk.down, one.servers["g1"].agreement.part), ((), False, "follower"))
        for name in ("g1", "x", "admin"):
            with self.assertRaises(MachineError):
                one.start(name)

    def test_a_crash_keeps_nothing_that_waits_if_it_is_not_told(self):
        one = Cluster(GROUPS)
        one.disks["g1"].append("x")
        one.crash("g1")
        self.assertEqual(one.disks["g1"].kept, ())

    def test_a_machine_comes_up_with_what_its_disk_holds(self):
        one = cluster()
        before = one.servers["g2"].agreement.journal
        one.crash("g2")
        self.assertEqual(one.names(), NAMES)
        one.start("g2")
        after = one.servers["g2"].agreement.journal
        self.assertIsNot(after, before)
        self.assertEqual((after.term, after.base, [entry.shown() for entry in after.entries]),
                         (before.term, before.base, [entry.shown() for entry in before.entries]))

    def test_a_damaged_disk(self):
        one = Cluster(GROUPS)
        one.crash("g1")
        one.disks["g1"].kept = Cluster(GROUPS).disks["g2"].kept
        one.disks["g1"].restart()
        one.disks["g1"].append(("entry", 7, 1, ("x",)))
        one.disks["g1"].sync()
        with self.assertRaises(StoreError):
            one.start("g1")
        self.assertEqual(("g1" in one.servers, one.disks["g1"].down), (False, True))

    def test_clients(self):
        one = Cluster(GROUPS)
        self.assertIsNone(one.add_client("u", [("get", "a")]))
        self.assertEqual((list(one.clients), list(one.clients["u"].wishes)), (["u"], [("get", "a")]))
        for name in ("u", "g1", "admin"):
            with self.assertRaises(MachineError):
                one.add_client(name, [])
        with self.assertRaises(AskError):
            one.add_client("v", [("get",)])
        self.assertEqual(list(one.clients), ["u"])

    def test_guarded(self):
        one = Cluster(GROUPS)
        done = []

        def work():
            done.append("g1")
            one.servers["g1"].agreement.send("g2", ("vote", 1, "g1", False))

        one.guarded("g1", work)
        self.assertEqual(done, ["g1"])
        self.assertEqual(one.net.take(0), ("g1", "g2", ("log", ("vote", 1, "g1", False))))
        one.crash("g1")
        with self.assertRaises(MachineError):
            one.guarded("g1", work)

    def test_a_fuse_keeps_by_the_time(self):
        for time, many in ((0, 0), (7, 7), (39, 39), (40, 0), (53, 13)):
            one = Cluster(GROUPS)
            disk = one.disks["g1"]

            def work():
                one.servers["g1"].agreement.send("g2", ("vote", 1, "g1", False))
                disk.append("x" * 90)
                disk.sync()

            disk.arm(1)
            one.time = time
            one.guarded("g1", work)
            self.assertEqual((len(disk.kept), disk.down, "g1" in one.servers), (many, True, False))
            self.assertEqual(one.net.messages, [])

    def test_tick(self):
        one = Cluster(GROUPS)
        clock = one.servers["g1"].agreement.clock
        self.assertIsNone(one.tick("g1"))
        self.assertEqual(one.servers["g1"].agreement.clock, clock - 1)
        for _ in range(clock):
            one.tick("g1")
        self.assertEqual([row[:2] for row in one.net.messages], [("g1", "g2"), ("g1", "g3")])
        one.crash("g1")
        self.assertIsNone(one.tick("g1"))
        self.assertEqual(one.time, 0)

    def test_a_machine_that_goes_down_hears_nothing_that_was_on_its_way(self):
        one = Cluster(GROUPS)
        one.net.send("g1", "g2", ("log", ("vote", 1, "g1", False)))
        one.net.send("g1", "g3", ("log", ("vote", 1, "g1", False)))
        one.crash("g2")
        self.assertEqual([row[1] for row in one.net.messages], ["g3"])


class Acts(unittest.TestCase):
    def quiet(self):
        """Return a new cluster with two clients, and a message to each of three machines."""
        one = Cluster(GROUPS)
        for name in ("v", "u"):
            one.add_client(name, [("get", "a"), ("get", "b")])
        for number, name in enumerate(("g2", "h1", "m3"), 1):
            one.net.send("g1", name, ("log", ("ask", number, "g1", 9, 9)))
        return one

    def targets(self, one):
        return [row[1] for row in one.net.messages]

    def test_time(self):
        one = self.quiet()
        for number in range(1, 200):
            self.assertIsNone(one.act(number * 7919))
            self.assertEqual(one.time, number)

    def test_each_of_the_sixteen(self):
        for number, word in enumerate(EVENTS):
            by_word, by_number = self.quiet(), self.quiet()
            by_word.act(event(word, 5))
            by_number.act(number + 16 * 5)
            self.assertEqual(by_word.net.messages, by_number.net.messages)
            self.assertEqual([by_word.servers[name].agreement.clock for name in by_word.servers],
                             [by_number.servers[name].agreement.clock for name in by_number.servers])

    def test_deliver(self):
        for rest, target in ((0, "g2"), (1, "h1"), (2, "m3"), (3, "g2"), (3 * 10 ** 20 + 1, "h1")):
            for number in range(5):
                one = self.quiet()
                one.act(number + 16 * rest)
                self.assertNotIn(target, self.targets(one)[:2])
                self.assertEqual(self.targets(one)[2:], ["g1"])
                self.assertGreater(one.servers[target].agreement.journal.term, 0)
        one = self.quiet()
        drain(one)
        one.act(event("deliver"))
        self.assertEqual((one.time, one.net.messages), (1, []))

    def test_deliver_to_one_that_is_down_or_unknown(self):
        one = self.quiet()
        drain(one)
        one.crash("g2")
        for target in ("g2", "nobody"):
            one.net.send("g1", target, ("log", ("ask", 1, "g1", 9, 9)))
            one.act(event("deliver"))
            self.assertEqual(one.net.messages, [])

    def test_deliver_to_a_client(self):
        one = cluster()
        one.add_client("u", [("put", "a", "1")])
        one.act(event("client"))
        for _ in range(60):
            one.act(event("deliver"))
        self.assertEqual((one.clients["u"].is_done(), one.clients["u"].events[0][2]), (True, one.time - 60))
        self.assertIn(one.clients["u"].events[0][3], range(one.time - 59, one.time + 1))

    def test_drop_and_repeat(self):
        for rest, target in ((0, "g2"), (1, "h1"), (5, "m3")):
            one = self.quiet()
            one.act(event("drop", rest))
            self.assertEqual((sorted(self.targets(one) + [target]), one.net.lost), (["g2", "h1", "m3"], 1))
            one = self.quiet()
            one.act(event("repeat", rest))
            self.assertEqual(self.targets(one), ["g2", "h1", "m3", target])
        one = self.quiet()
        drain(one)
        for word in ("drop", "repeat"):
            one.act(event(word))
        self.assertEqual((one.time, one.net.messages, one.net.lost), (2, [], 3))

    def test_no_repeat_with_300_messages(self):
        one = Cluster(GROUPS)
        for _ in range(299):
            one.net.send("g1", "g2", ("log", ("vote", 1, "g1", False)))
        one.act(event("repeat", 4))
        self.assertEqual(len(one.net.messages), 300)
        one.act(event("repeat", 4))
        self.assertEqual((len(one.net.messages), one.time), (300, 2))

    def test_tick(self):
        for number in (5, 6, 15):
            for rest, name in ((0, "g1"), (4, "h2"), (8, "m3"), (9, "g1"), (13, "h2")):
                one = self.quiet()
                clocks = {each: one.servers[each].agreement.clock for each in NAMES}
                one.act(number + 16 * rest)
                clocks[name] -= 1
                self.assertEqual({each: one.servers[each].agreement.clock for each in NAMES}, clocks)
        one = self.quiet()
        one.crash("g1")
        before = len(one.net.messages)
        one.act(event("tick"))
        self.assertEqual((one.time, len(one.net.messages)), (1, before))

    def test_client(self):
        for rest, name in ((0, "u"), (1, "v"), (2, "u"), (7, "v")):
            one = self.quiet()
            one.act(event("client", rest))
            self.assertEqual([row[0] for row in one.net.messages[3:]], [name])
            self.assertEqual(one.clients[name].events, [(1, ("get", "a"), 1, None, None)])
        one = Cluster(GROUPS)
        one.act(event("client"))
        self.assertEqual((one.time, one.net.messages), (1, []))

    def test_the_administrator_goes_on_with_the_clients(self):
        one = self.quiet()
        one.admin.want(("join", "g", GROUPS["g"]))
        one.act(event("client"))
        self.assertIn("admin", [row[0] for row in one.net.messages])

    def test_crash(self):
        for rest, name, many in ((0, "g1", 0), (3, "h1", 3), (39, "h1", 39), (40, "h2", 0), (9 * 40 + 4, "h2", 4)):
            one = self.quiet()
            one.disks[name].append("x" * 90)
            one.act(event("crash", rest))
            self.assertEqual((sorted(set(NAMES) - set(one.servers)), len(one.disks[name].kept)), ([name], many))
            one.act(event("crash", rest))
            self.assertEqual((sorted(set(NAMES) - set(one.servers)), len(one.disks[name].kept)), ([name], many))

    def test_start(self):
        one = self.quiet()
        before = one.servers["h2"]
        one.act(event("start", 4))
        self.assertIs(one.servers["h2"], before)
        one.crash("h2")
        one.crash("g1")
        one.act(event("start", 13))
        self.assertEqual(sorted(set(NAMES) - set(one.servers)), ["g1"])

    def test_cut_and_heal(self):
        one = self.quiet()
        for rest, name, part in ((0, "g1", 1), (1, "g2", 2), (2, "g3", 1), (12, "h1", 1), (3, "h1", 2)):
            one.act(event("cut", rest))
            self.assertEqual(one.net.parts[name], part)
        self.assertEqual(one.net.parts, {"g1": 1, "g2": 2, "g3": 1, "h1": 2})
        one.crash("g1")
        one.act(event("cut", 9))
        self.assertEqual(one.net.parts["g1"], 2)
        self.assertTrue(one.net.is_cut("g1", "m1"))
        one.act(event("heal", 3))
        self.assertFalse(one.net.is_cut("g1", "m1"))
        self.assertEqual(one.time, 7)

    def test_arm(self):
        for rest, name, fuse in ((0, "g1", 0), (6, "m1", 6), (7, "m2", 0), (13, "h2", 6), (12, "h1", 5)):
            one = self.quiet()
            one.act(event("arm", rest))
            self.assertEqual({each: one.disks[each].fuse for each in NAMES}, dict(dict.fromkeys(NAMES), **{name: fuse}))
        one = self.quiet()
        one.crash("g1")
        one.act(event("arm", 9))
        self.assertIsNone(one.disks["g1"].fuse)

    def test_a_machine_without_a_fuse_step_left_goes_down(self):
        one = self.quiet()
        one.act(event("arm", 0))
        for _ in range(20):
            one.act(event("tick", 0))
        self.assertNotIn("g1", one.servers)
        one.act(event("start", 0))
        self.assertIsNone(one.disks["g1"].fuse)

    def test_what_cannot_be_does_nothing(self):
        one = Cluster({})
        for number in range(64):
            one.act(number)
        self.assertEqual((one.time, one.net.messages, one.servers), (64, [], {}))


class Rounds(unittest.TestCase):
    def test_a_round(self):
        one = Cluster(GROUPS)
        one.add_client("u", [("get", "a")])
        one.net.send("g1", "g2", ("log", ("ask", 1, "g1", 0, 0)))
        one.net.send("g1", "g2", ("log", ("ask", 1, "g1", 0, 0)))
        clock = one.servers["m1"].agreement.clock
        self.assertIsNone(one.go_round())
        # What is sent in the round arrives in the next one.
        self.assertEqual([row[:2] for row in one.net.messages], [("g2", "g1"), ("g2", "g1"), ("u", "m1")])
        self.assertEqual((one.time, one.servers["m1"].agreement.clock), (1, clock - 1))
        self.assertEqual(one.clients["u"].events, [(1, ("get", "a"), 1, None, None)])

    def test_in_order(self):
        one = Cluster(SMALL)
        heard = []
        for number in range(5):
            one.net.send("x", "g1", ("request", "x", number, ("near", "a", 0, 0)))
        one.go_round()
        heard = [one.net.take(0)[2][1] for _ in range(5)]
        self.assertEqual(heard, [0, 1, 2, 3, 4])

    def test_rounds(self):
        one, other = Cluster(GROUPS), Cluster(GROUPS)
        self.assertIsNone(one.rounds(30))
        for _ in range(30):
            other.go_round()
        self.assertEqual((one.net.messages, one.time), (other.net.messages, 30))
        self.assertEqual([one.leader_of(group) for group in GROUPS], [other.leader_of(group) for group in GROUPS])

    def test_a_round_with_machines_that_are_down(self):
        one = Cluster(GROUPS)
        for name in NAMES:
            one.crash(name)
        one.rounds(3)
        self.assertEqual((one.time, one.net.messages), (3, []))

    def test_a_fuse_in_a_round(self):
        one = cluster()
        name = one.leader_of("g")
        one.disks[name].arm(0)
        one.add_client("u", [("put", "a", "1")])
        one.rounds(40)
        self.assertNotIn(name, one.servers)
        self.assertEqual(one.clients["u"].events[0][4], ("done",))


class Settle(unittest.TestCase):
    def test_nothing_to_do(self):
        one = Cluster(GROUPS)
        self.assertEqual((one.settle(), one.time), (0, 0))

    def test_all_come_up_and_reach_each_other(self):
        one = cluster()
        one.add_client("u", [("put", "a", "1"), ("get", "a")])
        one.net.cut(("g1", "m1"), 1)
        one.net.cut(("u",), 2)
        for name in ("g2", "g3", "m2"):
            one.crash(name)
        one.disks["g1"].arm(2)
        before = one.time
        many = one.settle()
        self.assertGreater(many, 0)
        self.assertEqual((one.time - before, sorted(one.servers), one.net.parts), (many, NAMES, {}))
        self.assertEqual([event[4] for event in one.clients["u"].events], [("done",), ("value", "1")])
        self.assertEqual(one.settle(), 0)

    def test_the_administrator_is_waited_for(self):
        one = Cluster(GROUPS)
        one.admin.want(("join", "g", GROUPS["g"]))
        one.settle()
        self.assertTrue(one.admin.is_done())

    def test_no_answer_comes(self):
        one = Cluster(GROUPS)
        one.add_client("u", [("put", "a", "1")])
        with self.assertRaises(MachineError):
            one.settle(50)
        self.assertEqual((one.time, one.clients["u"].is_done()), (50, False))
        with self.assertRaises(MachineError):
            one.settle(0)
        self.assertEqual(one.time, 50)

    def test_a_group_without_a_majority_of_machines_that_may_come_up(self):
        one = cluster()
        one.add_client("u", [("put", "a", "1")])
        one.crash("g1")
        one.disks["g1"].files["image"] = (0, 0, 0)
        with self.assertRaises(StoreError):
            one.settle()


class Leaders(unittest.TestCase):
    def test_leader_of(self):
        one = Cluster(GROUPS)
        self.assertEqual([one.leader_of(group) for group in ("g", "h", "maps", "x")], [None] * 4)
        one.rounds(60)
        for group in GROUPS:
            name = one.leader_of(group)
            self.assertIn(name, GROUPS[group])
            self.assertEqual([each for each in GROUPS[group] if one.servers[each].agreement.part == "leader"], [name])

    def test_of_the_latest_term(self):
        one = cluster()
        old = one.leader_of("g")
        one.net.cut((old,), 1)
        one.rounds(60)
        new = one.leader_of("g")
        self.assertNotEqual(new, old)
        self.assertEqual([one.servers[name].agreement.part for name in (old, new)], ["leader", "leader"])
        one.crash(new)
        self.assertEqual(one.leader_of("g"), old)
        for number in range(3):
            one = Cluster(GROUPS)
            for at, name in enumerate(GROUPS["g"]):
                one.servers[name].agreement.part = "leader"
                one.servers[name].agreement.journal.term = (at + number) % 3
            self.assertEqual(one.leader_of("g"), GROUPS["g"][2 - number])


class Members(unittest.TestCase):
    def members(self, one, group="g"):
        agreement = one.servers[one.leader_of(group)].agreement
        return agreement.journal.members_at(agreement.committed)

    def test_add_machine(self):
        one = cluster()
        self.assertIsNone(one.add_machine("g", "g4"))
        self.assertEqual((one.groups["g"], one.group_of("g4")), (("g1", "g2", "g3", "g4"), "g"))
        self.assertEqual((one.names(), sorted(one.servers)), (sorted(NAMES + ["g4"]),) * 2)
        server = one.servers["g4"]
        self.assertEqual((server.agreement.members(), server.group), ((), "g"))
        one.rounds(60)
        self.assertEqual((server.agreement.part, server.agreement.journal.term), ("follower", 0))
        self.assertEqual(GROUPS["g"], ("g1", "g2", "g3"))
        for group, name in (("g", "g4"), ("g", "g1"), ("g", "admin"), ("x", "x1")):
            with self.assertRaises(MachineError):
                one.add_machine(group, name)
        one.add_client("u", [])
        with self.assertRaises(MachineError):
            one.add_machine("g", "u")
        self.assertEqual(one.groups["g"], ("g1", "g2", "g3", "g4"))

    def test_a_new_machine_that_was_down_is_still_no_member(self):
        one = cluster()
        one.add_machine("g", "g4")
        one.crash("g4")
        one.start("g4")
        self.assertEqual(one.servers["g4"].agreement.members(), ())

    def test_members_join_and_leave(self):
        one = cluster()
        one.add_client("u", [("put", "a", "1")])
        one.settle()
        one.add_machine("g", "g4")
        before = one.time
        many = one.change_members("g", ("g1", "g2", "g3", "g4"))
        self.assertEqual(one.time - before, many)
        self.assertGreater(many, 0)
        self.assertEqual(self.members(one), ("g1", "g2", "g3", "g4"))
        self.assertEqual(one.change_members("g", ("g4", "g3", "g2", "g1")), 0)
        one.rounds(20)
        self.assertEqual(one.servers["g4"].book.read("a"), ("value", "1"))
        one.change_members("g", ("g2", "g3", "g4"))
        one.change_members("g", ("g3", "g4"))
        self.assertEqual(self.members(one), ("g3", "g4"))
        one.crash("g1")
        one.crash("g2")
        one.add_client("v", [("get", "a")])
        one.rounds(120)
        self.assertEqual(one.clients["v"].events[0][4], ("value", "1"))

    def test_a_leader_that_goes(self):
        one = cluster()
        name = one.leader_of("g")
        left = tuple(each for each in GROUPS["g"] if each != name)
        one.change_members("g", left)
        self.assertEqual(self.members(one), left)
        self.assertIn(one.leader_of("g"), left)

    def test_the_members_do_not_change(self):
        one = cluster()
        for members in (("g1",), ("g1", "g2", "g3", "h1", "h2"), ()):
            before = one.time
            with self.assertRaises(MachineError):
                one.change_members("g", members, 30)
            self.assertEqual((one.time - before, self.members(one)), (30, GROUPS["g"]))
        one.crash("g1")
        one.crash("g2")
        with self.assertRaises(MachineError):
            one.change_members("g", ("g2", "g3"), 40)

    def test_propose_members(self):
        one = cluster()
        name = one.leader_of("g")
        journal = one.servers[name].agreement.journal
        last = journal.last()
        other = [each for each in GROUPS["g"] if each != name][0]
        one.propose_members(other, ("g1", "g2"))
        one.propose_members(name, GROUPS["g"])
        one.propose_members(name, ("g1",))
        self.assertEqual(journal.last(), last)
        self.assertIsNone(one.propose_members(name, tuple(each for each in GROUPS["g"] if each != other)))
        self.assertEqual((journal.last(), journal.members()), (last + 1, journal.entry(last + 1).command[1]))
        one.propose_members(name, GROUPS["g"])
        self.assertEqual(journal.last(), last + 1)
        self.assertIn((name, other), [row[:2] for row in one.net.messages])

    def test_a_leader_whose_disk_goes_down(self):
        one = cluster()
        name = one.leader_of("g")
        one.disks[name].arm(0)
        one.propose_members(name, tuple(each for each in GROUPS["g"] if each != name))
        self.assertNotIn(name, one.servers)
        self.assertIsNone(one.propose_members(name, ("g1", "g2")))

    def test_one_that_left_and_did_not_hear_so_lets_the_others_be(self):
        one = cluster()
        gone = one.servers["g3"].agreement
        one.net.cut(("g3",), 1)
        one.change_members("g", ("g1", "g2"))
        one.rounds(30)
        one.net.heal()
        self.assertEqual(gone.members(), GROUPS["g"])
        one.rounds(100)
        self.assertEqual(gone.members(), ("g1", "g2"))
        term = gone.journal.term
        one.rounds(100)
        self.assertEqual((one.servers["g1"].agreement.journal.term, gone.part), (term, "follower"))


class Maps(unittest.TestCase):
    def test_change_map(self):
        one = Cluster(GROUPS)
        self.assertEqual(one.change_map(("join", "g", GROUPS["g"])),
                         ("map", (1, ("g",) * 8, (("g", GROUPS["g"]),))))
        self.assertEqual(one.change_map(("join", "h", GROUPS["h"]))[1][1], ("g",) * 4 + ("h",) * 4)
        self.assertEqual(one.change_map(("move", 0, "h"))[1][1], ("h",) + ("g",) * 3 + ("h",) * 4)
        self.assertEqual(one.change_map(("leave", "g"))[1][1], ("h",) * 8)
        for change in (("leave", "h"), ("leave", "x"), ("move", 8, "h"), ("move", 0, "g"), ("join", "h", ("h1",)),
                       ("join", "maps", ("m1",)), ("join", "x", ()), ("other",)):
            self.assertEqual(one.change_map(change), ("refused", "map"))
        self.assertTrue(one.admin.is_done())

    def test_no_answer_comes(self):
        one = Cluster(GROUPS)
        one.crash("m1")
        one.crash("m2")
        with self.assertRaises(MachineError):
            one.change_map(("join", "g", GROUPS["g"]), 30)
        self.assertEqual((one.time, one.admin.is_done()), (30, False))
        one.start("m1")
        # What was asked for before is not forgotten.
        self.assertEqual(one.change_map(("join", "h", GROUPS["h"]))[1][1], ("g",) * 4 + ("h",) * 4)

    def test_no_answer_comes_and_the_same_is_asked_again(self):
        one = cluster()
        one.crash("m1")
        one.crash("m2")
        for _ in range(2):
            with self.assertRaises(MachineError):
                one.change_map(("join", "h", GROUPS["h"]), 30)
        one.start("m1")
        self.assertEqual(one.change_map(("join", "h", GROUPS["h"]))[1][0], 2)
        self.assertEqual(one.change_map(("join", "h", GROUPS["h"])), ("refused", "map"))

    def test_shards_come_where_the_map_tells(self):
        one = cluster()
        one.add_client("u", [("put", key, key) for key in "abcdefgh"])
        one.settle()
        for change in (("join", "h", GROUPS["h"]), ("move", 0, "h"), ("leave", "g"), ("join", "g", GROUPS["g"])):
            places = one.change_map(change)[1][1]
            one.rounds(60)
            for group in ("g", "h"):
                for name in GROUPS[group]:
                    keeper = one.servers[name].book
                    self.assertEqual([shard.state == "kept" for shard in keeper.shards],
                                     [place == group for place in places])
                    for key in "abcdefgh":
                        if places[shard_of(key)] == group:
                            self.assertEqual(keeper.read(key), ("value", key))


class History(unittest.TestCase):
    def test_by_time_of_asking(self):
        one = cluster()
        one.add_client("v", [("put", "a", "1"), ("get", "a")])
        one.rounds(3)
        one.add_client("u", [("near", "a")])
        one.settle()
        self.assertEqual([row[:3] for row in one.history()],
                         [("v", 1, ("put", "a", "1")), ("u", 1, ("near", "a")), ("v", 2, ("get", "a"))])
        rows = [(name,) + row for name in one.clients for row in one.clients[name].events]
        self.assertEqual(sorted(one.history()), sorted(rows))

    def test_without_answers(self):
        one = Cluster(GROUPS)
        one.add_client("u", [("get", "a")])
        one.go_round()
        self.assertEqual(one.history(), [("u", 1, ("get", "a"), 1, None, None)])


class Admin(unittest.TestCase):
    CHANGE = ("join", "g", ("g1",))
    ANSWER = ("map", (1, ("g",) * 8, (("g", ("g1",)),)))

    def test_want(self):
        one = Administrator(("m1", "m2"))
        self.assertEqual((one.name, one.events, one.is_done(), one.take_outbox()), ("admin", [], True, []))
        self.assertIsNone(one.want(self.CHANGE))
        self.assertFalse(one.is_done())
        self.assertEqual(one.take_outbox(), [("m1", ("request", "admin", 1, ("ask", "admin", 1, ("change", self.CHANGE))))])
        self.assertEqual(one.take_outbox(), [])
        one.receive(("reply", 1, self.ANSWER, 4), 9)
        self.assertEqual((one.is_done(), one.events[-1][3:]), (True, (9, self.ANSWER)))

    def test_follow_and_ask_again(self):
        one = Administrator(("m1", "m2"))
        one.want(self.CHANGE)
        one.take_outbox()
        one.receive(("reply", 1, ("follow", "m9"), 0), 1)
        self.assertEqual(one.take_outbox(), [("m9", ("request", "admin", 2, ("ask", "admin", 1, ("change", self.CHANGE))))])
        targets = []
        for time in range(2, 40):
            one.go_on(time)
            targets.extend(target for target, _ in one.take_outbox())
        self.assertEqual(targets[:3], ["m2", "m1", "m2"])
        one.receive(("reply", 2, self.ANSWER, 4), 41)
        self.assertFalse(one.is_done())
        one.receive(("reply", one.asked, ("follow", None), 4), 41)
        self.assertEqual(one.take_outbox(), [])
        for time in range(42, 46):
            one.go_on(time)
        [(_, message)] = one.take_outbox()
        one.receive(("reply", message[2], ("refused", "map"), 4), 47)
        self.assertEqual((one.is_done(), one.events[-1][3:]), (True, (47, ("refused", "map"))))
        one.receive(("reply", message[2], self.ANSWER, 4), 48)
        self.assertEqual(one.events[-1][3:], (47, ("refused", "map")))

    def test_times(self):
        one = Administrator(("m1",))
        one.go_on(5)
        one.want(self.CHANGE)
        self.assertEqual(one.events, [(1, self.CHANGE, 5, None, None)])
        one.receive(("reply", 1, self.ANSWER, 4), 9)
        self.assertEqual(one.events, [(1, self.CHANGE, 5, 9, self.ANSWER)])

    def test_changes_one_after_another(self):
        one = Administrator(("m1",))
        one.want(self.CHANGE)
        one.want(("leave", "g"))
        self.assertEqual([message[3][2:] for _, message in one.take_outbox()], [(1, ("change", self.CHANGE))])
        one.receive(("reply", 1, self.ANSWER, 4), 9)
        self.assertFalse(one.is_done())
        self.assertEqual([message[3][2:] for _, message in one.take_outbox()], [(2, ("change", ("leave", "g")))])
        one.receive(("reply", 2, ("refused", "map"), 5), 12)
        self.assertTrue(one.is_done())

    def test_the_same_change_while_it_is_asked_for(self):
        one = Administrator(("m1",))
        one.want(self.CHANGE)
        one.want(self.CHANGE)
        one.receive(("reply", 1, self.ANSWER, 4), 9)
        self.assertTrue(one.is_done())
        one.want(self.CHANGE)
        self.assertFalse(one.is_done())

    def test_serials_of_an_earlier_one(self):
        one = cluster()
        for change in (("join", "h", GROUPS["h"]), ("leave", "h")):
            one.change_map(change)
        one.admin = Administrator(GROUPS["maps"])
        self.assertEqual(one.change_map(("join", "h", GROUPS["h"]))[1][0], 4)


if __name__ == "__main__":
    unittest.main()
