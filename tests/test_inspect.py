"""Points [1] and [5]: what must hold among machines at any time, and each single fault, made by hand."""

import unittest

from shardstack.cluster import Cluster
from shardstack.errors import CheckError, StoreError
from shardstack.disk import Disk
from shardstack.inspect import (
    check_cluster, check_committed, check_leaders, check_logs, check_pair, check_shards, has_entry, has_most, journals,
    newest_keeper)
from shardstack.journal import Entry, Journal

GROUPS = {"maps": ("m1", "m2", "m3"), "g": ("g1", "g2", "g3"), "h": ("h1", "h2", "h3")}


def cluster(limit=100):
    """Return a cluster at rest: g keeps shards 0 to 3, h keeps 4 to 7, and some keys were put."""
    one = Cluster(GROUPS, 1, limit)
    one.change_map(("join", "g", GROUPS["g"]))
    one.change_map(("join", "h", GROUPS["h"]))
    one.add_client("u", [("put", key, key) for key in "abcdefgh"])
    one.settle()
    one.rounds(40)
    return one


def journal(*rows, base=0, term=0, members=("a", "b", "c")):
    """Return a journal of (term, word) rows behind a base."""
    found = Journal(Disk(), members)
    if base:
        found.install(base, term, members, "image")
    found.add([Entry(one, (word,)) for one, word in rows])
    return found


class Parts(unittest.TestCase):
    def test_has_most(self):
        self.assertEqual([has_most(("a", "b", "c"), names) for names in ((), ("a",), ("a", "c"), ("a", "x", "y"))],
                         [False, False, True, False])
        self.assertEqual([has_most(("a", "b"), names) for names in (("a",), ("b", "a"))], [False, True])
        self.assertFalse(has_most((), ("a",)))

    def test_has_entry(self):
        one = journal((3, "x"), (3, "y"), base=5, term=2)
        for number, term, expected in ((4, 1, True), (1, 9, True), (5, 2, True), (5, 1, False), (6, 3, True), (7, 3, True),
                                       (6, 2, False), (8, 3, False)):
            self.assertEqual(has_entry(one, number, term), expected, (number, term))

    def test_check_pair(self):
        one = journal((1, "x"), (1, "y"), (2, "z"))
        for other in (one, journal((1, "x")), journal(), journal((1, "x"), (1, "y"), (3, "q")), journal((4, "q"), (4, "r"))):
            self.assertIsNone(check_pair(one, other))
            self.assertIsNone(check_pair(other, one))
        for other in (journal((1, "other")), journal((1, "x"), (1, "y"), (2, "other")), journal((0, "x"), (1, "y")),
                      journal((1, "x"), (0, "y"), (2, "z")), journal((1, "q"), (1, "y"), (2, "z"))):
            for pair in ((one, other), (other, one)):
                with self.assertRaises(CheckError):
                    check_pair(*pair)

    def test_check_pair_behind_a_base(self):
        one = journal((1, "x"), (1, "y"), (2, "z"), (2, "q"))
        self.assertIsNone(check_pair(one, journal((2, "z"), (2, "q"), base=2, term=1)))
        self.assertIsNone(check_pair(one, journal(base=9, term=4)))
        with self.assertRaises(CheckError):
            check_pair(one, journal((2, "other"), (2, "q"), base=2, term=1))

    def test_journals(self):
        one = cluster()
        found = journals(one, "g")
        self.assertEqual(sorted(found), ["g1", "g2", "g3"])
        self.assertIs(found["g1"], one.servers["g1"].agreement.journal)
        before = one.servers["g2"].agreement.journal
        one.crash("g2")
        disk = one.disks["g2"]
        kept = (disk.kept, disk.waiting, dict(disk.files), disk.down)
        told = journals(one, "g")["g2"]
        self.assertEqual([entry.shown() for entry in told.entries], [entry.shown() for entry in before.entries])
        self.assertEqual((told.base, told.term, told.members()), (before.base, before.term, GROUPS["g"]))
        self.assertEqual((disk.kept, disk.waiting, disk.files, disk.down), kept)

    def test_a_damaged_disk(self):
        one = cluster()
        one.crash("g2")
        one.disks["g2"].files["image"] = (1, 2, 3)
        for check in (lambda: journals(one, "g"), lambda: check_logs(one, "g"), lambda: check_committed(one, "g"),
                      lambda: check_cluster(one)):
            with self.assertRaises(StoreError):
                check()


class Right(unittest.TestCase):
    def test_all_is_well(self):
        for limit in (1, 12, 100):
            one = cluster(limit)
            self.assertEqual(check_cluster(one), 9)
            one.crash("g1")
            self.assertEqual(check_cluster(one), 8)
            for name in list(one.servers):
                one.crash(name)
            self.assertEqual(check_cluster(one), 0)

    def test_a_new_one(self):
        self.assertEqual(check_cluster(Cluster(GROUPS)), 9)

    def test_each_tells_nothing(self):
        one = cluster()
        for group in GROUPS:
            self.assertEqual([check(one, group) for check in (check_leaders, check_logs, check_committed)], [None] * 3)
        self.assertIsNone(check_shards(one))

    def test_leaders_of_two_terms(self):
        one = cluster()
        old = one.leader_of("g")
        one.net.cut((old,), 1)
        one.rounds(60)
        self.assertEqual(sum(one.servers[name].agreement.part == "leader" for name in GROUPS["g"]), 2)
        self.assertEqual(check_cluster(one), 9)

    def test_a_machine_whose_journal_does_not_tell_the_members_yet(self):
        one = cluster()
        one.add_machine("g", "g4")
        self.assertEqual(check_cluster(one), 10)
        agreement = one.servers["g4"].agreement
        agreement.journal.add([Entry(1, ("x",))])
        agreement.committed = 1
        self.assertIsNone(check_committed(one, "g"))
        one = cluster()
        one.add_machine("g", "g4")
        one.change_members("g", GROUPS["g"] + ("g4",))
        for _ in range(40):
            one.go_round()
            self.assertEqual(check_cluster(one), 10)

    def test_members_that_only_later_entries_tell(self):
        # The leader of four has put into its log that there are five, and has committed with the fifth one.
        rows = [(1, ("nothing",)), (1, ("x",)), (1, ("members", ("g1", "g2", "g3", "g4", "g5")))]
        one = Cluster({"maps": ("m1",), "g": ("g1", "g2", "g3", "g4")})
        one.add_machine("g", "g5")
        for name, many in (("g1", 3), ("g2", 2), ("g3", 0), ("g4", 0), ("g5", 2)):
            one.servers[name].agreement.journal.add([Entry(*row) for row in rows[:many]])
        for name in ("g1", "g2", "g5"):
            one.servers[name].agreement.committed = 2
            self.assertIsNone(check_committed(one, "g"))
        one.servers["g2"].agreement.journal.cut(2)
        one.servers["g2"].agreement.committed = 0
        with self.assertRaises(CheckError):
            check_committed(one, "g")

    def test_newest_keeper(self):
        one = cluster()
        self.assertEqual([newest_keeper(one, "g", place) for place in range(8)], [2] * 4 + [None] * 4)
        self.assertEqual([newest_keeper(one, "h", place) for place in range(8)], [None] * 4 + [2] * 4)
        self.assertIsNone(newest_keeper(one, "maps", 0))
        for name in ("g1", "g2"):
            one.servers[name].applied -= 1
            for shard in one.servers[name].book.shards:
                shard.state = "away"
        self.assertEqual(newest_keeper(one, "g", 0), 2)
        # A machine that is behind does not tell.
        one.servers["g3"].applied -= 2
        self.assertIsNone(newest_keeper(one, "g", 0))
        for name in GROUPS["g"]:
            one.crash(name)
        self.assertIsNone(newest_keeper(one, "g", 0))


class Faults(unittest.TestCase):
    def check(self, one, *checks):
        """Each of some checks finds the fault, the whole inspection does, and no other one."""
        for check in (check_leaders, check_logs, check_committed):
            if check in checks:
                with self.assertRaises(CheckError):
                    check(one, "g")
            else:
                self.assertIsNone(check(one, "g"))
        if check_shards in checks:
            with self.assertRaises(CheckError):
                check_shards(one)
        else:
            self.assertIsNone(check_shards(one))
        with self.assertRaises(CheckError):
            check_cluster(one)

    def test_two_leaders_in_a_term(self):
        one = cluster()
        for name in GROUPS["g"]:
            if name != one.leader_of("g"):
                one.servers[name].agreement.part = "leader"
                break
        self.check(one, check_leaders)

    def test_entries_of_a_term_differ(self):
        one = cluster()
        entries = one.servers["g2"].agreement.journal.entries
        entries[-2] = Entry(entries[-2].term, ("other",))
        self.check(one, check_logs)

    def test_logs_differ_before_a_same_entry(self):
        one = cluster()
        entries = one.servers["g2"].agreement.journal.entries
        entries[1] = Entry(entries[1].term - 1, entries[1].command)
        self.check(one, check_logs, check_committed)

    def test_on_the_disk_of_one_that_is_down(self):
        one = cluster()
        journal = one.servers["g2"].agreement.journal
        journal.cut(2)
        journal.add([Entry(journal.term, ("other",))])
        one.crash("g2")
        self.check(one, check_logs)

    def test_committed_on_too_few_disks(self):
        one = cluster()
        lead = one.leader_of("g")
        for name in GROUPS["g"]:
            if name != lead:
                one.servers[name].agreement.journal.entries.pop()
                self.assertEqual(check_committed(one, "h"), None)
        self.check(one, check_committed)
        one = cluster()
        for name in GROUPS["g"]:
            if name != one.leader_of("g"):
                one.crash(name)
                one.disks[name].kept = ()
                one.disks[name].files = {}
        self.check(one, check_committed)

    def test_an_earlier_one_is_on_too_few_disks(self):
        one = cluster()
        lead = one.leader_of("g")
        for name in GROUPS["g"]:
            if name != lead:
                entries = one.servers[name].agreement.journal.entries
                entries[0] = Entry(entries[0].term + 5, entries[0].command)
                one.servers[name].agreement.committed = 0
        with self.assertRaises(CheckError):
            check_committed(one, "g")

    def test_committed_too_early(self):
        one = cluster()
        lead = one.servers[one.leader_of("g")].agreement
        lead.journal.add([Entry(lead.journal.term, ("x",))])
        self.assertEqual(check_cluster(one), 9)
        lead.committed += 1
        self.check(one, check_committed)
        lead.journal.entries.pop()
        self.check(one, check_committed)

    def test_two_groups_keep_a_shard(self):
        for names in (("h1", "h2", "h3"), ("h1",), ("h3",)):
            one = cluster()
            for name in names:
                one.servers[name].book.shards[2].state = "kept"
            self.check(one, check_shards)

    def test_under_another_map_it_is_none(self):
        one = cluster()
        for name in GROUPS["h"]:
            one.servers[name].book.shards[2].state = "kept"
            one.servers[name].book.shards[2].number = 1
        self.assertEqual(check_cluster(one), 9)

    def test_each_group_is_looked_at(self):
        for group in GROUPS:
            one = cluster()
            for name in GROUPS[group]:
                one.servers[name].agreement.part = "leader"
                one.servers[name].agreement.journal.term = 9
            with self.assertRaises(CheckError):
                check_cluster(one)


if __name__ == "__main__":
    unittest.main()
