"""Point [5]: followers, candidates and leaders, votes, entries, what is committed, reads, snapshots."""

import unittest

from helpers import (NAMES, agreement, come_up, confirm, elect, leader, log_of, settled_leader, stand, waits)

from shardstack.disk import Disk
from shardstack.errors import LogError, MachineError, StoreError, WireError
from shardstack.journal import Journal, read_journal
from shardstack.raft import Agreement

FIVE = ("a", "b", "c", "d", "e")
ONE = ((1, ("nothing",)),)


def messages(machine, word):
    """Return the (target, message) pairs of a class that a machine has to send, and empty its outbox."""
    return [(target, message) for target, message in machine.take_outbox() if message[0] == word]


class Waits(unittest.TestCase):
    def test_by_hand(self):
        # "a" is sign 65, so its number is 66: (1 * 1103515245 + 12345 + 132) by 2 ** 31 is 1103527722;
        # by 65536 that is 16838, and by 8 that is 6.
        self.assertEqual(waits("a", 1, 1), [14])
        self.assertEqual(stand(agreement("a", NAMES, 1)), 14)
        # "b" with seed 7: number 67; (7 * 1103515245 + 12345 + 134) by 2 ** 31 is 1282168250; by 65536 it is 19564.
        self.assertEqual(waits("b", 7, 1), [12])
        self.assertEqual(stand(agreement("b", NAMES, 7)), 12)

    def test_names_and_seeds(self):
        found = set()
        for name in ("a", "b", "zed", "node~1", "\n", "m10", "x" * 40):
            for seed in (0, 1, 2, 3, 77, 65536, 2 ** 31 - 1, 10 ** 12):
                machine = agreement(name, (name, "q1", "q2"), seed)
                drawn = waits(name, seed, 3)
                self.assertEqual([stand(machine), stand(machine), stand(machine)], drawn)
                found.update(drawn)
        self.assertEqual(found, set(range(8, 16)))

    def test_a_name_that_cannot_be_sent(self):
        with self.assertRaises(WireError):
            Agreement("a%", Journal(Disk(), NAMES), 1)

    def test_new(self):
        machine = agreement()
        self.assertEqual((machine.name, machine.part, machine.leader, machine.committed, machine.turn),
                         ("a", "follower", None, 0, 0))
        self.assertEqual((machine.matched, machine.following, machine.take_outbox()), ({}, {}, []))
        self.assertIsInstance(machine.clock, int)
        self.assertEqual((machine.members(), machine.others()), (NAMES, ["b", "c"]))
        self.assertEqual(agreement("b", ("c", "b", "a")).others(), ["a", "c"])

    def test_majority(self):
        for members, names, told in ((NAMES, ("a",), False), (NAMES, ("a", "b"), True), (NAMES, ("a", "z"), False),
                                     (("a", "b", "c", "d"), ("a", "b"), False), (FIVE, ("a", "b", "e"), True),
                                     (("a",), ("a",), True), (("a",), (), False), ((), ("a",), False)):
            self.assertEqual(agreement("a", members).is_majority(names), told)
            self.assertEqual(agreement("a", members).is_majority({name: True for name in names}), told)

    def test_outbox(self):
        machine = agreement()
        self.assertIsNone(machine.send("b", ("vote", 1, "a", True)))
        machine.send("c", ("vote", 1, "a", False))
        self.assertEqual(machine.take_outbox(), [("b", ("vote", 1, "a", True)), ("c", ("vote", 1, "a", False))])
        self.assertEqual(machine.take_outbox(), [])

    def test_wait_after_a_vote_given(self):
        for before in (0, 3, 7):
            machine = agreement("b")
            for _ in range(before):
                machine.tick()
            machine.receive(("ask", 1, "a", 0, 0))
            self.assertIn(stand(machine), range(8, 16))
            self.assertEqual(machine.journal.term, 2)

    def test_no_wait_after_a_vote_refused(self):
        machine = agreement("b", rows=ONE, term=1)
        for _ in range(7):
            machine.tick()
        machine.receive(("ask", 2, "a", 0, 0))
        self.assertEqual((machine.journal.term, machine.journal.vote), (2, None))
        self.assertEqual(stand(machine), waits("b", 1, 1)[0] - 7)

    def test_a_leader_that_is_heard_keeps_others_from_standing(self):
        machine = agreement("b")
        for number in range(20):
            machine.receive(("entries", 1, "a", 0, 0, (), 0, number + 1))
            for _ in range(7):
                machine.tick()
        self.assertEqual((machine.part, machine.leader, machine.journal.term), ("follower", "a", 1))
        machine.receive(("entries", 1, "a", 0, 0, (), 0, 99))
        self.assertIn(stand(machine), range(8, 16))
        self.assertEqual((machine.part, machine.leader), ("candidate", None))

    def test_who_is_no_member_does_not_stand(self):
        for members in ((), ("b", "c")):
            machine = agreement("a", members)
            for _ in range(60):
                machine.tick()
            self.assertEqual((machine.part, machine.journal.term, machine.take_outbox()), ("follower", 0, []))

    def test_group_of_one(self):
        machine = agreement("a", ("a",))
        self.assertEqual(stand(machine), waits("a", 1, 1)[0])
        self.assertEqual((machine.part, machine.leader, machine.committed, machine.turn), ("leader", "a", 1, 1))
        self.assertEqual(machine.propose(("x",)), 2)
        self.assertEqual((machine.committed, machine.take_outbox()), (2, []))
        self.assertEqual(machine.begin_read(), (2, 2))
        self.assertTrue(machine.is_confirmed(2, 1))


class Standing(unittest.TestCase):
    def test_candidate(self):
        machine = agreement("b", rows=((1, ("nothing",)), (2, ("x",))), term=3)
        stand(machine)
        self.assertEqual((machine.part, machine.leader, machine.journal.term, machine.journal.vote),
                         ("candidate", None, 4, "b"))
        self.assertEqual(machine.take_outbox(), [("a", ("ask", 4, "b", 2, 2)), ("c", ("ask", 4, "b", 2, 2))])

    def test_more_than_half(self):
        for members, needed in ((("a", "b"), 1), (NAMES, 1), (("a", "b", "c", "d"), 2), (FIVE, 2)):
            machine = agreement("a", members)
            stand(machine)
            for at, other in enumerate(machine.others()[:needed], 1):
                self.assertEqual(machine.part, "candidate")
                machine.receive(("vote", 1, other, True))
            self.assertEqual((machine.part, machine.leader), ("leader", "a"))
            self.assertEqual(at, needed)

    def test_votes_that_do_not_count(self):
        machine = agreement("a", FIVE)
        stand(machine)
        stand(machine)
        for message in (("vote", 2, "b", False), ("vote", 2, "zed", True), ("vote", 1, "b", True), ("vote", 1, "c", True),
                        ("vote", 2, "d", True), ("vote", 2, "d", True), ("vote", 2, "zed", True)):
            machine.receive(message)
            self.assertEqual((machine.part, machine.journal.term), ("candidate", 2))
        machine.receive(("vote", 2, "e", True))
        self.assertEqual(machine.part, "leader")

    def test_votes_for_who_does_not_stand(self):
        machine = agreement("a")
        machine.receive(("vote", 0, "b", True))
        machine.receive(("vote", 0, "c", True))
        self.assertEqual((machine.part, machine.journal.term), ("follower", 0))

    def test_a_later_term(self):
        for message in (("vote", 5, "b", False), ("vote", 5, "b", True), ("ask", 5, "b", 9, 9), ("ask", 5, "b", 0, 0),
                        ("entries", 5, "b", 0, 0, (), 0, 1), ("accept", 5, "b", False, 0, 1),
                        ("image", 5, "b", 3, 4, NAMES, "i", 1)):
            for machine in (agreement(), leader()):
                if machine.part == "follower":
                    stand(machine)
                machine.receive(message)
                self.assertEqual((machine.part, machine.journal.term), ("follower", 5))
                self.assertEqual(machine.leader, "b" if message[0] in ("entries", "image") else None)

    def test_a_leader_that_follows_waits_anew(self):
        for ticks in range(4):
            for message in (("vote", 5, "b", False), ("ask", 5, "b", 0, 0), ("accept", 5, "b", False, 0, 1)):
                machine = leader()
                for _ in range(ticks):
                    machine.tick()
                machine.receive(message)
                self.assertIn(stand(machine), range(8, 16))

    def test_a_leader_among_candidates(self):
        machine = agreement("b")
        stand(machine)
        machine.receive(("entries", 1, "a", 0, 0, ONE, 0, 1))
        self.assertEqual((machine.part, machine.leader, machine.journal.term, machine.journal.vote),
                         ("follower", "a", 1, "b"))

    def test_follow(self):
        machine = agreement("b")
        machine.receive(("ask", 3, "a", 0, 0))
        self.assertIsNone(machine.follow(3, "a"))
        self.assertEqual((machine.leader, machine.journal.term, machine.journal.vote), ("a", 3, "a"))
        machine.follow(4, None)
        self.assertEqual((machine.leader, machine.journal.term, machine.journal.vote), (None, 4, None))
        with self.assertRaises(LogError):
            machine.follow(3, "a")
        self.assertEqual((machine.part, machine.leader, machine.journal.term), ("follower", None, 4))


class Votes(unittest.TestCase):
    def ask(self, machine, *message):
        machine.take_outbox()
        machine.receive(("ask",) + message)
        (target, answer), = machine.take_outbox()
        self.assertEqual(target, message[1])
        self.assertEqual(answer[:3], ("vote", machine.journal.term, machine.name))
        return answer[3]

    def test_once_in_a_term(self):
        machine = agreement("b")
        self.assertTrue(self.ask(machine, 1, "a", 0, 0))
        self.assertFalse(self.ask(machine, 1, "c", 0, 0))
        self.assertFalse(self.ask(machine, 1, "c", 9, 1))
        self.assertTrue(self.ask(machine, 1, "a", 0, 0))
        self.assertTrue(self.ask(machine, 2, "c", 0, 0))
        self.assertEqual((machine.journal.term, machine.journal.vote), (2, "c"))

    def test_once_in_a_term_after_coming_up(self):
        machine = agreement("b")
        self.assertTrue(self.ask(machine, 1, "a", 0, 0))
        machine = come_up(machine)
        self.assertFalse(self.ask(machine, 1, "c", 0, 0))
        self.assertTrue(self.ask(machine, 1, "a", 0, 0))
        machine = come_up(machine)
        stand(machine)
        machine = come_up(machine)
        self.assertFalse(self.ask(machine, 2, "a", 0, 0))

    def test_an_earlier_term(self):
        machine = agreement("b", term=4)
        self.assertFalse(self.ask(machine, 3, "a", 9, 9))
        self.assertEqual((machine.journal.term, machine.journal.vote), (4, None))

    def test_only_for_a_log_that_is_not_behind(self):
        for number, term, told in ((2, 2, True), (3, 2, True), (1, 3, True), (0, 3, True), (1, 2, False),
                                   (9, 1, False), (0, 0, False)):
            machine = agreement("b", rows=((1, ("nothing",)), (2, ("x",))), term=2)
            self.assertEqual(self.ask(machine, 5, "a", number, term), told)
            self.assertEqual((machine.journal.term, machine.journal.vote), (5, "a" if told else None))

    def test_by_the_base(self):
        machine = settled_leader("b", rows=((1, ("nothing",)),), term=1)
        machine.compact(2, "image")
        self.assertFalse(self.ask(machine, 9, "a", 1, 2))
        self.assertTrue(self.ask(machine, 9, "c", 2, 2))

    def test_a_candidate_votes_for_itself_alone(self):
        machine = agreement("b")
        stand(machine)
        self.assertFalse(self.ask(machine, 1, "a", 9, 9))
        machine = leader("b")
        self.assertFalse(self.ask(machine, 1, "a", 9, 9))
        self.assertEqual(machine.part, "leader")

    def test_who_is_no_member_votes(self):
        self.assertTrue(self.ask(agreement("z", ()), 1, "a", 0, 0))


class Leading(unittest.TestCase):
    def test_first_entry(self):
        machine = elect(agreement("a", rows=((1, ("nothing",)), (1, ("x",))), term=4))
        self.assertEqual(log_of(machine)[2:], [(5, ("nothing",))])
        row = ("entries", 5, "a", 2, 1, ((5, ("nothing",)),), 0, 1)
        self.assertEqual(messages(machine, "entries"), [("b", row), ("c", row)])
        self.assertEqual((machine.turn, machine.committed), (1, 0))
        self.assertEqual(read_journal(machine.journal.disk, NAMES).last(), 3)

    def test_every_three_ticks(self):
        machine = settled_leader()
        for tick in range(1, 10):
            machine.tick()
            found = messages(machine, "entries")
            row = ("entries", 1, "a", 1, 1, (), 1, 1 + tick // 3)
            self.assertEqual(found, [("b", row), ("c", row)] if tick % 3 == 0 else [])

    def test_when_there_is_something_new(self):
        machine = settled_leader()
        self.assertEqual(machine.propose(("x",)), 2)
        row = ("entries", 1, "a", 1, 1, ((1, ("x",)),), 1, 1)
        self.assertEqual(machine.take_outbox(), [("b", row), ("c", row)])
        self.assertEqual(machine.propose(("y", 1)), 3)
        row = ("entries", 1, "a", 1, 1, ((1, ("x",)), (1, ("y", 1))), 1, 1)
        self.assertEqual(machine.take_outbox(), [("b", row), ("c", row)])

    def test_five_at_most(self):
        machine = leader()
        for number in range(11):
            machine.propose(("x", number))
        machine.take_outbox()
        found = []
        confirm(machine, "b", 0)
        while found == [] or len(found) < 12:
            (target, message), = messages(machine, "entries")
            self.assertEqual((target, message[3]), ("b", len(found)))
            self.assertLessEqual(len(message[5]), 5)
            found.extend(message[5])
            confirm(machine, "b", len(found))
        self.assertEqual(found, log_of(machine))
        self.assertEqual(machine.take_outbox(), [])

    def test_one_who_does_not_have_what_comes_before(self):
        machine = leader("a", rows=tuple((1, ("x", number)) for number in range(8)), term=1)
        machine.receive(("accept", 2, "b", False, 3, 1))
        (target, message), = messages(machine, "entries")
        self.assertEqual((target, message[3:5]), ("b", (3, 1)))
        self.assertEqual(message[5], tuple((1, ("x", number)) for number in range(3, 8)))
        while message[3] > 0:
            machine.receive(("accept", 2, "b", False, message[3] - 1, 1))
            before = message[3]
            (target, message), = messages(machine, "entries")
            self.assertLess(message[3], before)
        machine.receive(("accept", 2, "b", True, 5, 1))
        (target, message), = messages(machine, "entries")
        self.assertEqual(message[3], 5)

    def test_a_late_refusal_does_not_undo_what_is_known(self):
        machine = settled_leader("a", rows=tuple((1, ("x", number)) for number in range(8)), term=1)
        machine.receive(("accept", 2, "b", False, 0, 1))
        self.assertEqual((machine.matched["b"], machine.following["b"]), (9, 10))
        machine.receive(("accept", 2, "b", True, 4, 1))
        self.assertEqual((machine.matched["b"], machine.following["b"]), (9, 10))

    def test_snapshot_for_one_who_is_behind(self):
        machine = leader("a", ("a", "b", "c"), rows=tuple((1, ("x", number)) for number in range(4)), term=1)
        confirm(machine, "b")
        machine.take_outbox()
        machine.compact(4, ("image", 4))
        machine.receive(("accept", 2, "c", False, 1, 1))
        row = ("image", 2, "a", 4, 1, NAMES, ("image", 4), 1)
        self.assertEqual(machine.take_outbox(), [("c", row)])
        for _ in range(3):
            machine.tick()
        found = dict(machine.take_outbox())
        self.assertEqual(found["c"], row[:7] + (2,))
        self.assertEqual(found["b"], ("entries", 2, "a", 5, 2, (), 5, 2))
        machine.receive(("accept", 2, "c", True, 4, 1))
        self.assertEqual(machine.take_outbox(), [("c", ("entries", 2, "a", 4, 1, ((2, ("nothing",)),), 5, 2))])

    def test_propose(self):
        for machine in (agreement(), agreement("a", ())):
            with self.assertRaises(MachineError):
                machine.propose(("x",))
            self.assertEqual((log_of(machine), machine.take_outbox()), ([], []))
        machine = leader()
        with self.assertRaises(WireError):
            machine.propose(("put", "%"))
        self.assertEqual((log_of(machine), machine.take_outbox()), ([(1, ("nothing",))], []))

    def test_answers_of_machines_that_were_sent_nothing(self):
        machine = leader("a", ("a",) + FIVE[1:])
        before = dict(machine.matched), dict(machine.following), machine.turn
        for message in (("accept", 1, "zed", True, 1, 1), ("accept", 1, "zed", False, 0, 1), ("vote", 1, "zed", True)):
            machine.receive(message)
        self.assertEqual((machine.matched, machine.following, machine.turn), before)
        self.assertEqual((machine.committed, machine.take_outbox(), machine.part), (0, [], "leader"))
        machine = agreement()
        for message in (("accept", 0, "b", True, 1, 1), ("accept", 0, "b", False, 0, 1)):
            machine.receive(message)
        self.assertEqual((machine.committed, machine.take_outbox(), machine.part), (0, [], "follower"))

    def test_answers_of_an_earlier_term(self):
        machine = leader("a", rows=ONE, term=3)
        for message in (("accept", 3, "b", True, 2, 1), ("accept", 1, "c", True, 2, 1), ("accept", 3, "b", False, 0, 1)):
            machine.receive(message)
        self.assertEqual((machine.committed, machine.take_outbox()), (0, []))
        self.assertFalse(machine.is_confirmed(1, 4))


class Following(unittest.TestCase):
    def answer(self, machine, message):
        machine.take_outbox()
        machine.receive(message)
        (target, answer), = machine.take_outbox()
        self.assertEqual(target, message[2])
        self.assertEqual(answer[:3], ("accept", machine.journal.term, machine.name))
        self.assertEqual(answer[5], message[7])
        return answer[3:5]

    def entries(self, term, before, before_term, *rows, committed=0, turn=4):
        return ("entries", term, "a", before, before_term, rows, committed, turn)

    def machine(self):
        return agreement("b", rows=((1, ("p",)), (1, ("q",)), (2, ("r",))), term=2)

    def test_that_follow(self):
        machine = self.machine()
        self.assertEqual(self.answer(machine, self.entries(3, 3, 2, (3, ("s",)), (3, ("t",)))), (True, 5))
        self.assertEqual(log_of(machine)[3:], [(3, ("s",)), (3, ("t",))])
        self.assertEqual((machine.part, machine.leader, machine.journal.term), ("follower", "a", 3))
        self.assertEqual(self.answer(machine, self.entries(3, 5, 3)), (True, 5))
        self.assertEqual(read_journal(machine.journal.disk, NAMES).last(), 5)

    def test_that_do_not_follow(self):
        machine = self.machine()
        for message in (self.entries(3, 4, 3), self.entries(3, 9, 3, (3, ("s",))), self.entries(3, 3, 1, (3, ("s",))),
                        self.entries(3, 2, 2), self.entries(3, 3, 3, (3, ("s",)), committed=3)):
            success, number = self.answer(machine, message)
            self.assertFalse(success)
            self.assertLess(number, message[3])
            self.assertLessEqual(number, 3)
            self.assertEqual((len(log_of(machine)), machine.committed, machine.leader), (3, 0, "a"))

    def test_that_contradict(self):
        machine = self.machine()
        self.assertEqual(self.answer(machine, self.entries(4, 1, 1, (3, ("x",)))), (True, 2))
        self.assertEqual(log_of(machine), [(1, ("p",)), (3, ("x",))])
        self.assertEqual([entry.shown() for entry in read_journal(machine.journal.disk, NAMES).entries], log_of(machine))
        machine = self.machine()
        self.assertEqual(self.answer(machine, self.entries(4, 0, 0, (1, ("p",)), (1, ("q",)), (4, ("y",)), (4, ("z",)))),
                         (True, 4))
        self.assertEqual(log_of(machine), [(1, ("p",)), (1, ("q",)), (4, ("y",)), (4, ("z",))])

    def test_that_are_there_already(self):
        machine = self.machine()
        steps = machine.journal.disk.syncs
        self.assertEqual(self.answer(machine, self.entries(2, 0, 0, (1, ("p",)))), (True, 1))
        self.assertEqual(self.answer(machine, self.entries(2, 0, 0, (1, ("p",)), (1, ("q",)))), (True, 2))
        self.assertEqual(self.answer(machine, self.entries(2, 1, 1)), (True, 1))
        self.assertEqual(log_of(machine), [(1, ("p",)), (1, ("q",)), (2, ("r",))])
        self.assertEqual(machine.journal.disk.syncs, steps)
        self.assertEqual(self.answer(machine, self.entries(2, 2, 1, (2, ("r",)), (2, ("s",)))), (True, 4))
        self.assertEqual(len(log_of(machine)), 4)

    def test_an_earlier_term(self):
        machine = self.machine()
        self.assertFalse(self.answer(machine, self.entries(1, 3, 2, (1, ("old",)), committed=3))[0])
        self.assertEqual((len(log_of(machine)), machine.committed, machine.leader, machine.journal.term), (3, 0, None, 2))
        self.assertFalse(self.answer(machine, ("image", 1, "a", 9, 1, NAMES, "i", 4))[0])
        self.assertEqual((machine.journal.base, machine.committed), (0, 0))

    def test_committed(self):
        machine = self.machine()
        self.answer(machine, self.entries(2, 1, 1, committed=3))
        self.assertEqual(machine.committed, 1)
        self.answer(machine, self.entries(2, 3, 2, committed=2))
        self.assertEqual(machine.committed, 2)
        self.answer(machine, self.entries(2, 3, 2, (2, ("s",)), committed=99))
        self.assertEqual(machine.committed, 4)
        self.answer(machine, self.entries(2, 0, 0, committed=1))
        self.assertEqual(machine.committed, 4)

    def test_before_the_base(self):
        machine = self.machine()
        self.answer(machine, self.entries(2, 3, 2, committed=3))
        machine.compact(2, "i")
        self.assertEqual(self.answer(machine, self.entries(2, 0, 0, (1, ("p",)))), (True, 1))
        self.assertEqual(self.answer(machine, self.entries(2, 0, 0, (1, ("p",)), (1, ("q",)), (2, ("r",)), (2, ("s",)))),
                         (True, 4))
        self.assertEqual((machine.journal.base, log_of(machine)), (2, [(2, ("r",)), (2, ("s",))]))

    def test_image(self):
        for rows, left in (((), []), (((1, ("p",)), (3, ("q",)), (3, ("r",))), [(3, ("r",))]),
                           (((1, ("p",)), (2, ("q",)), (2, ("r",))), [])):
            machine = agreement("b", ("b",), rows=rows, term=3)
            self.assertEqual(self.answer(machine, ("image", 4, "a", 2, 3, NAMES, ("all",), 6)), (True, 2))
            journal = machine.journal
            self.assertEqual((journal.base, journal.base_term, journal.base_members, journal.image, log_of(machine)),
                             (2, 3, NAMES, ("all",), left))
            self.assertEqual((machine.committed, machine.leader, machine.members()), (2, "a", NAMES))
            found = come_up(machine)
            self.assertEqual((found.committed, found.journal.image, log_of(found)), (2, ("all",), left))

    def test_an_image_of_what_is_committed_already(self):
        machine = self.machine()
        self.answer(machine, self.entries(2, 3, 2, committed=3))
        syncs = machine.journal.disk.syncs
        for number in (1, 2, 3):
            self.assertEqual(self.answer(machine, ("image", 2, "a", number, 1, ("z",), "i", 5)), (True, number))
        self.assertEqual((machine.journal.base, machine.journal.image, machine.committed), (0, None, 3))
        self.assertEqual(machine.journal.disk.syncs, syncs)

    def test_unknown_messages(self):
        for machine in (self.machine(), leader()):
            before = machine.journal.term, machine.part, log_of(machine)
            for message in ((), ("other",), ("other", 99, "a"), ("ask", 99), ("vote", 99, "a"), (1, 99, "a", 0, 0),
                            ("log", ("ask", 99, "a", 0, 0)), (None,)):
                with self.assertRaises(MachineError):
                    machine.receive(message)
            self.assertEqual((machine.journal.term, machine.part, log_of(machine), machine.take_outbox()), before + ([],))


class Commits(unittest.TestCase):
    def test_more_than_half(self):
        for members, needed in ((NAMES, 1), (("a", "b", "c", "d"), 2), (FIVE, 2)):
            machine = leader("a", members)
            machine.propose(("x",))
            for at, other in enumerate(machine.others(), 1):
                confirm(machine, other)
                self.assertEqual(machine.committed, 2 if at >= needed else 0)

    def test_the_same_machine_counts_once(self):
        machine = leader("a", FIVE)
        for _ in range(5):
            confirm(machine, "b")
            self.assertEqual(machine.committed, 0)

    def test_only_of_the_own_term(self):
        machine = leader("a", FIVE, rows=((1, ("p",)), (2, ("q",))), term=2)
        for other in ("b", "c", "d", "e"):
            confirm(machine, other, 2)
        self.assertEqual(machine.committed, 0)
        confirm(machine, "b", 3)
        self.assertEqual(machine.committed, 0)
        confirm(machine, "c", 3)
        self.assertEqual(machine.committed, 3)

    def test_the_last_that_more_than_half_have(self):
        machine = leader("a", FIVE)
        for number in range(4):
            machine.propose(("x", number))
        for other, number, told in (("b", 5, 0), ("c", 2, 2), ("d", 3, 3), ("e", 1, 3), ("e", 4, 4), ("c", 5, 5)):
            confirm(machine, other, number)
            self.assertEqual(machine.committed, told)

    def test_late_and_double_answers(self):
        machine = settled_leader()
        machine.propose(("x",))
        confirm(machine, "b")
        self.assertEqual(machine.committed, 2)
        for message in (("accept", 1, "b", True, 1, 1), ("accept", 1, "b", False, 0, 1), ("accept", 1, "c", False, 1, 1),
                        ("accept", 1, "b", True, 2, 1), ("accept", 1, "c", True, 0, 1)):
            machine.receive(message)
            self.assertEqual(machine.committed, 2)

    def test_an_answer_beyond_the_log(self):
        machine = leader()
        confirm(machine, "b", 99)
        self.assertEqual((machine.committed, machine.matched["b"], machine.following["b"]), (1, 1, 2))

    def test_committed_begins_at_the_base(self):
        machine = settled_leader()
        self.assertEqual(come_up(machine).committed, 0)
        machine.compact(1, "i")
        self.assertEqual(come_up(machine).committed, 1)


class Reads(unittest.TestCase):
    def test_who_cannot(self):
        machine = agreement()
        for _ in range(2):
            with self.assertRaises(MachineError):
                machine.begin_read()
            stand(machine)
        machine = leader("a", rows=ONE, term=1)
        with self.assertRaises(MachineError):
            machine.begin_read()
        confirm(machine, "b", 1)
        with self.assertRaises(MachineError):
            machine.begin_read()
        self.assertEqual((machine.turn, machine.take_outbox()[1:]), (1, []))
        confirm(machine, "b")
        self.assertEqual(machine.begin_read(), (2, 2))
        machine.receive(("vote", 9, "b", False))
        with self.assertRaises(MachineError):
            machine.begin_read()

    def test_rounds(self):
        machine = leader()
        self.assertEqual(machine.turn, 1)
        confirm(machine, "b")
        machine.take_outbox()
        self.assertEqual(machine.begin_read(), (1, 2))
        self.assertEqual([(target, message[7]) for target, message in machine.take_outbox()], [("b", 2), ("c", 2)])
        self.assertEqual(machine.begin_read(), (1, 3))
        for turn in (3, 3, 4, 4, 4, 5):
            machine.tick()
            self.assertEqual(machine.turn, turn)
        machine.propose(("x",))
        self.assertEqual(machine.turn, 5)
        self.assertEqual(machine.begin_read(), (1, 6))

    def test_confirmed(self):
        machine = leader()
        self.assertFalse(machine.is_confirmed(1, 1))
        confirm(machine, "b")
        self.assertTrue(machine.is_confirmed(1, 1))
        self.assertFalse(machine.is_confirmed(1, 0))
        self.assertFalse(machine.is_confirmed(1, 2))
        self.assertFalse(machine.is_confirmed(2, 1))
        number, turn = machine.begin_read()
        self.assertFalse(machine.is_confirmed(turn, 1))
        machine.receive(("accept", 1, "c", True, 1, turn - 1))
        machine.receive(("accept", 1, "zed", True, 1, turn))
        machine.receive(("accept", 0, "c", True, 1, turn))
        self.assertFalse(machine.is_confirmed(turn, 1))
        machine.receive(("accept", 1, "c", True, 1, turn + 3))
        self.assertTrue(machine.is_confirmed(turn, 1))
        self.assertTrue(machine.is_confirmed(1, 1))

    def test_a_refusal_answers_a_round_too(self):
        machine = settled_leader()
        _, turn = machine.begin_read()
        machine.receive(("accept", 1, "b", False, 0, turn))
        self.assertTrue(machine.is_confirmed(turn, 1))

    def test_five(self):
        machine = settled_leader("a", FIVE)
        _, turn = machine.begin_read()
        for other, told in (("b", False), ("b", False), ("c", True)):
            machine.receive(("accept", 1, other, True, 1, turn))
            self.assertEqual(machine.is_confirmed(turn, 1), told)

    def test_not_of_another_time(self):
        machine = settled_leader()
        _, turn = machine.begin_read()
        machine.receive(("accept", 1, "b", True, 1, turn))
        machine.receive(("vote", 4, "c", False))
        self.assertFalse(machine.is_confirmed(turn, 1))
        self.assertFalse(machine.is_confirmed(turn, 4))
        elect(machine)
        self.assertEqual(machine.turn, turn + 1)
        self.assertFalse(machine.is_confirmed(turn, 5))
        self.assertFalse(machine.is_confirmed(turn, 1))

    def test_rounds_count_from_one_since_it_came_up(self):
        machine = settled_leader()
        machine.begin_read()
        machine = elect(come_up(machine))
        self.assertEqual(machine.turn, 1)


class Snapshots(unittest.TestCase):
    def test_compact(self):
        machine = leader()
        for number in range(3):
            machine.propose(("x", number))
        confirm(machine, "b", 3)
        for number in (-1, 0, 4, 9):
            with self.assertRaises(MachineError):
                machine.compact(number, "i")
        self.assertEqual((machine.journal.base, machine.journal.last()), (0, 4))
        self.assertIsNone(machine.compact(2, ("image", 2)))
        self.assertEqual((machine.journal.base, machine.journal.image, machine.journal.last()), (2, ("image", 2), 4))
        for number in (1, 2, 4):
            with self.assertRaises(MachineError):
                machine.compact(number, "i")
        machine.compact(3, ("image", 3))
        self.assertEqual(log_of(machine), [(1, ("x", 2))])
        confirm(machine, "c")
        self.assertEqual(machine.committed, 4)

    def test_a_follower_compacts(self):
        machine = agreement("b")
        machine.receive(("entries", 1, "a", 0, 0, ONE + ((1, ("x",)),), 1, 1))
        with self.assertRaises(MachineError):
            machine.compact(2, "i")
        machine.compact(1, "i")
        self.assertEqual((machine.journal.base, log_of(machine)), (1, [(1, ("x",))]))


class Members(unittest.TestCase):
    def test_one_at_a_time(self):
        for names in (("a", "b", "c", "d", "e"), ("a",), ("a", "b", "d"), NAMES, ("c", "b", "a"), ("x", "y", "z"), ()):
            machine = settled_leader()
            with self.assertRaises(MachineError):
                machine.propose(("members", names))
            self.assertEqual((machine.journal.last(), machine.take_outbox(), machine.members()), (1, [], NAMES))
        for names in (("a", "b", "c", "d"), ("d", "c", "b", "a"), ("a", "b"), ("b", "c")):
            machine = settled_leader()
            self.assertEqual(machine.propose(("members", names)), 2)
            self.assertEqual(machine.members(), names)

    def test_the_change_holds_at_once(self):
        machine = settled_leader()
        machine.propose(("members", ("a", "b", "c", "d")))
        self.assertEqual(machine.others(), ["b", "c", "d"])
        self.assertEqual([target for target, _ in machine.take_outbox()], ["b", "c", "d"])
        confirm(machine, "b")
        self.assertEqual(machine.committed, 1)
        confirm(machine, "d")
        self.assertEqual(machine.committed, 2)

    def test_a_new_member_gets_the_log_from_the_beginning(self):
        machine = settled_leader("a", rows=tuple((1, ("x", number)) for number in range(3)), term=1)
        machine.propose(("members", ("a", "b", "c", "d")))
        new = agreement("d", ())
        pending = [message for target, message in machine.take_outbox() if target == "d"]
        while pending:
            new.receive(pending.pop())
            for _, message in new.take_outbox():
                machine.receive(message)
            pending.extend(message for target, message in machine.take_outbox() if target == "d")
        self.assertEqual((log_of(new), new.members()), (log_of(machine), ("a", "b", "c", "d")))

    def test_only_when_the_last_change_is_committed(self):
        machine = settled_leader()
        machine.propose(("members", ("a", "b", "c", "d")))
        for names in (NAMES, ("a", "b", "c", "d", "e")):
            with self.assertRaises(MachineError):
                machine.propose(("members", names))
        self.assertEqual(machine.propose(("x",)), 3)
        confirm(machine, "b", 2)
        confirm(machine, "c", 2)
        self.assertEqual(machine.committed, 2)
        self.assertEqual(machine.propose(("members", ("a", "b", "c", "d", "e"))), 4)

    def test_only_when_it_has_committed_in_its_term(self):
        machine = leader("a", rows=ONE, term=1)
        with self.assertRaises(MachineError):
            machine.propose(("members", ("a", "b")))
        confirm(machine, "b", 1)
        with self.assertRaises(MachineError):
            machine.propose(("members", ("a", "b")))
        confirm(machine, "b")
        machine.propose(("members", ("a", "b")))

    def test_not_by_who_does_not_lead(self):
        with self.assertRaises(MachineError):
            agreement().propose(("members", ("a", "b")))

    def test_a_leader_that_goes(self):
        machine = settled_leader()
        self.assertEqual(machine.propose(("members", ("b", "c"))), 2)
        self.assertEqual((machine.part, machine.others()), ("leader", ["b", "c"]))
        confirm(machine, "b")
        self.assertEqual((machine.part, machine.committed), ("leader", 1))
        confirm(machine, "c")
        self.assertEqual((machine.part, machine.committed, machine.leader), ("follower", 2, None))
        self.assertEqual(machine.journal.term, 1)
        for _ in range(60):
            machine.tick()
        self.assertEqual((machine.part, machine.journal.term), ("follower", 1))

    def test_a_leader_that_is_not_yet_committed_leads_on(self):
        machine = agreement("c", ("a", "b"), rows=((1, ("nothing",)), (1, ("members", NAMES))), term=1)
        elect(machine)
        for _ in range(6):
            machine.tick()
        self.assertEqual(machine.part, "leader")
        confirm(machine, "b")
        self.assertEqual((machine.part, machine.committed), ("leader", 3))

    def test_who_goes_hears_of_it(self):
        machine = settled_leader()
        machine.propose(("members", ("a", "b")))
        self.assertEqual([target for target, _ in machine.take_outbox()], ["b", "c"])
        for _ in range(3):
            machine.tick()
        self.assertEqual([target for target, _ in machine.take_outbox()], ["b"])
        confirm(machine, "c")
        self.assertEqual(machine.committed, 1)
        confirm(machine, "b")
        self.assertEqual(machine.committed, 2)

    def test_who_alone_knows_of_its_going_brings_that_to_the_others(self):
        # b has put into its log that it goes, and went down before c heard of it: c cannot lead without b's vote,
        # and b cannot give it, for its log is ahead.
        b = agreement("b", ("b", "c"), rows=((1, ("nothing",)), (1, ("members", ("c",)))), term=1)
        c = agreement("c", ("b", "c"), rows=((1, ("nothing",)),), term=1)
        for _ in range(60):
            b.tick()
        self.assertEqual((b.part, b.journal.term), ("follower", 1))
        stand(c)
        for _ in range(20):
            for one, other in ((c, b), (b, c)):
                for _, message in one.take_outbox():
                    other.receive(message)
            b.tick()
        self.assertEqual((c.members(), log_of(c)), (("c",), log_of(b)))
        self.assertEqual((b.part, b.committed, b.journal.term), ("follower", 3, 3))

    def test_who_hears_a_leader_is_not_asked_in_vain_any_more(self):
        machine = agreement("z", ("a", "b"), rows=ONE, term=1)
        machine.receive(("ask", 2, "a", 0, 0))
        machine.receive(("entries", 2, "b", 1, 1, (), 1, 1))
        for _ in range(60):
            machine.tick()
        self.assertEqual((machine.part, machine.journal.term), ("follower", 2))

    def test_who_is_asked_in_vain_stands_once(self):
        machine = agreement("z", ("a", "b"), rows=ONE, term=1)
        machine.receive(("ask", 2, "a", 0, 0))
        stand(machine)
        self.assertEqual((machine.part, machine.journal.term), ("candidate", 3))
        for _ in range(60):
            machine.tick()
        self.assertEqual(machine.journal.term, 3)

    def test_who_left_and_does_not_know_is_told(self):
        machine = settled_leader("a", rows=((1, ("nothing",)), (1, ("members", ("a", "b")))), term=1)
        machine.receive(("ask", 7, "c", 1, 1))
        self.assertEqual(machine.take_outbox(), [("c", ("vote", 7, "a", False))])
        gone = agreement("c", rows=((1, ("nothing",)),), term=7)
        elect(machine)
        self.assertEqual([target for target, _ in machine.take_outbox()], ["b", "b", "c"])
        # It is sent the log in each round until it has all of that, and counts for nothing.
        for _ in range(2):
            for _ in range(3):
                machine.tick()
            pending = machine.take_outbox()
            self.assertEqual([target for target, _ in pending], ["b", "c"])
        while pending:
            target, message = pending.pop()
            if target == "c":
                gone.receive(message)
                for _, answer in gone.take_outbox():
                    machine.receive(answer)
                pending.extend(machine.take_outbox())
        self.assertEqual((gone.members(), log_of(gone)), (("a", "b"), log_of(machine)))
        self.assertEqual((machine.committed, machine.is_confirmed(machine.turn, machine.journal.term)), (3, False))
        for _ in range(3):
            machine.tick()
        self.assertEqual([target for target, _ in machine.take_outbox()], ["b"])
        for _ in range(60):
            gone.tick()
        self.assertEqual((gone.part, gone.take_outbox()), ("follower", []))

    def test_who_asks_and_is_not_behind_is_sent_nothing(self):
        for message in (("ask", 7, "c", 3, 2), ("ask", 7, "c", 9, 4), ("vote", 1, "c", True), ("accept", 1, "c", True, 3, 1)):
            machine = settled_leader("a", rows=((1, ("nothing",)), (1, ("members", ("a", "b")))), term=1)
            machine.receive(message)
            if machine.part != "leader":
                elect(machine)
            machine.take_outbox()
            for _ in range(3):
                machine.tick()
            self.assertEqual([target for target, _ in machine.take_outbox()], ["b"])

    def test_a_change_that_is_cut_holds_no_more(self):
        machine = agreement("b", rows=((1, ("nothing",)), (1, ("members", ("a", "b")))), term=1)
        self.assertEqual(machine.members(), ("a", "b"))
        machine.receive(("entries", 2, "c", 1, 1, ((2, ("nothing",)),), 1, 1))
        self.assertEqual(machine.members(), NAMES)


class Crashes(unittest.TestCase):
    MESSAGES = (
        ("ask", 5, "a", 9, 4), ("ask", 5, "a", 0, 0), ("vote", 5, "a", False),
        ("entries", 5, "a", 3, 2, ((4, ("s",)), (5, ("t",))), 4, 1),
        ("entries", 5, "a", 2, 1, ((4, ("s",)), (5, ("t",))), 2, 1),
        ("entries", 2, "a", 2, 1, ((2, ("other",)),), 2, 1),
        ("image", 5, "a", 2, 1, NAMES, "i", 1), ("image", 5, "a", 9, 4, NAMES, "i", 1),
    )

    def machine(self):
        machine = agreement("b", rows=((1, ("p",)), (1, ("q",)), (2, ("r",))), term=2)
        machine.receive(("entries", 2, "a", 2, 1, (), 2, 1))
        machine.take_outbox()
        return machine

    def test_each_step_of_each_message(self):
        for message in self.MESSAGES:
            for steps in range(9):
                for many in (0, 7, 30, 10 ** 6):
                    machine = self.machine()
                    machine.journal.disk.arm(steps)
                    try:
                        machine.receive(message)
                        done = True
                    except StoreError:
                        done = False
                    self.assertEqual(done, not machine.journal.disk.down)
                    found = come_up(machine, NAMES, many)
                    self.check(found, message)
            self.assertTrue(done)

    def check(self, found, message):
        """What was committed is there, the term is no earlier one, and the same message is taken up now."""
        self.assertGreaterEqual(found.journal.term, 2)
        if found.journal.base < 2:
            self.assertEqual([found.journal.term_at(number) for number in (1, 2)], [1, 1])
        found.receive(message)
        whole = self.machine()
        whole.receive(message)
        self.assertEqual((found.journal.term, found.journal.vote), (whole.journal.term, whole.journal.vote))
        # What is committed is not kept, so one that came up may take over a snapshot that tells nothing new.
        base = max(found.journal.base, whole.journal.base)
        self.assertEqual([entry.shown() for entry in found.journal.after(base, 9)],
                         [entry.shown() for entry in whole.journal.after(base, 9)])
        self.assertEqual(found.take_outbox(), whole.take_outbox())

    def test_each_step_of_an_election(self):
        for steps in range(5):
            for many in (0, 30, 10 ** 6):
                machine = agreement("a", ("a",), rows=ONE, term=1)
                machine.journal.disk.arm(steps)
                try:
                    for _ in range(20):
                        machine.tick()
                    self.assertEqual(steps, 4)
                except StoreError:
                    pass
                found = elect(come_up(machine, ("a",), many))
                self.assertEqual((found.committed, log_of(found)[0]), (found.journal.last(), ONE[0]))

    def test_each_step_of_a_proposal(self):
        for steps in range(3):
            for many in (0, 10 ** 6):
                machine = settled_leader()
                machine.journal.disk.arm(steps)
                if steps < 2:
                    with self.assertRaises(StoreError):
                        machine.propose(("x",))
                else:
                    machine.propose(("x",))
                found = come_up(machine, NAMES, many)
                self.assertIn(found.journal.last(), (1, 2))
                self.assertTrue(steps < 2 or found.journal.last() == 2)


if __name__ == "__main__":
    unittest.main()
