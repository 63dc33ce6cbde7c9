"""Point [15]: runs as texts, runs that are done again, and digests."""

import random
import unittest

from shardstack.cluster import EVENTS, Cluster
from shardstack.errors import TextError
from shardstack.hashtree import hash_of
from shardstack.journal import Entry
from shardstack.linear import is_linear
from shardstack.trace import choice_of, digest, event_word, machine_digest, parse_trace, rerun, trace_text

GROUPS = {"maps": ("m1", "m2", "m3"), "g": ("g1", "g2", "g3"), "h": ("h1",)}
WISHES = {"u": [("put", "a", "1"), ("deal", (("append", "a", "2"), ("get", "d"))), ("near", "a")],
          "v": [("append", "d", "x"), ("read", "a")]}


def choices(many, seed=1):
    draw = random.Random(seed)
    return [draw.randrange(16 * 97) for _ in range(many)]


class Texts(unittest.TestCase):
    def test_event_word(self):
        for choice, text in ((0, "deliver 0"), (4, "deliver 0"), (5, "tick 0"), (15, "tick 0"), (7, "client 0"), (8, "drop 0"),
                             (9, "repeat 0"), (10, "crash 0"), (11, "start 0"), (12, "cut 0"), (13, "heal 0"),
                             (14, "arm 0"), (16 * 37 + 12, "cut 37"), (16 * 10 ** 20 + 7, "client 1" + "0" * 20)):
            self.assertEqual(event_word(choice), text)

    def test_trace_text(self):
        self.assertEqual(trace_text([0, 21, 16 * 12 + 10]), "deliver 0\ntick 1\ncrash 12\n")
        self.assertEqual(trace_text([]), "")

    def test_choice_of(self):
        for line, choice in (("deliver 0", 0), ("deliver 3", 48), ("tick 0", 5), ("tick 2", 37), ("arm 7", 126),
                             ("client 007", 119), ("heal " + "0" * 30, 13), ("cut " + "9" * 30, 16 * (10 ** 30 - 1) + 12)):
            self.assertEqual(choice_of(line), choice)

    def test_the_least_number(self):
        for choice in range(16 * 5):
            least = choice_of(event_word(choice))
            self.assertLessEqual(least, choice)
            self.assertEqual(event_word(least), event_word(choice))
            self.assertEqual(EVENTS.index(EVENTS[choice % 16]), least % 16)

    def test_wrong_lines(self):
        for line in ("", " ", "tick", "tick ", "tick x", "tick -1", "tick 1 2", "tick  1", " tick 1", "tick 1 ", "Tick 1",
                     "other 1", "1", "1 tick", "tick 1.0", "tick " + "1" * 31, "tick 1\n", "tick\n1", "tick +1", "tick 1_0"):
            with self.assertRaises(TextError, msg=repr(line)):
                choice_of(line)

    def test_and_back(self):
        some = choices(200)
        found = parse_trace(trace_text(some))
        self.assertEqual(trace_text(found), trace_text(some))
        self.assertEqual(found, [choice_of(event_word(choice)) for choice in some])
        self.assertEqual(parse_trace(""), [])

    def test_wrong_texts(self):
        for text in ("\n", "tick 1\n\n", "\ntick 1\n", "tick 1\n\ntick 2\n", "tick 1\nother 2\n", "tick 1 tick 2\n",
                     "tick 1\r\ntick 2\r\n", "tick 1\n "):
            with self.assertRaises(TextError, msg=repr(text)):
                parse_trace(text)


class Reruns(unittest.TestCase):
    def test_the_first_map(self):
        one = rerun(GROUPS, 3, 5, WISHES, [])
        self.assertEqual((one.groups, one.servers["g1"].limit), (GROUPS, 5))
        self.assertEqual({name: list(one.clients[name].wishes) for name in one.clients}, WISHES)
        newest = one.servers[one.leader_of("maps")].book.maps[-1]
        self.assertEqual((newest.places, newest.groups), (("g",) * 4 + ("h",) * 4, {"g": GROUPS["g"], "h": GROUPS["h"]}))
        self.assertEqual(one.history(), [])
        # Nothing is asked for the maps' group, which keeps no shard.
        self.assertEqual([event[1] for event in one.admin.events],
                         [("join", name, GROUPS[name]) for name in ("g", "h")])

    def test_the_events(self):
        one, other = rerun(GROUPS, 3, 5, WISHES, []), rerun(GROUPS, 3, 5, WISHES, choices(500))
        for choice in choices(500):
            one.act(choice)
        self.assertEqual((digest(one), one.time), (digest(other), other.time))

    def test_again(self):
        for seed in range(1, 5):
            some = choices(1500, seed)
            one = rerun(GROUPS, seed, 4, WISHES, some)
            other = rerun(GROUPS, seed, 4, WISHES, parse_trace(trace_text(some)))
            self.assertEqual(digest(one), digest(other))
            one.settle()
            other.settle()
            self.assertEqual(digest(one), digest(other))
            self.assertTrue(is_linear(one.history()))

    def test_another_run(self):
        some = choices(800)
        base = digest(rerun(GROUPS, 1, 4, WISHES, some))
        others = (rerun(GROUPS, 2, 4, WISHES, some), rerun(GROUPS, 1, 1, WISHES, some), rerun(GROUPS, 1, 4, {}, some),
                  rerun(GROUPS, 1, 4, WISHES, some[:-200]), rerun(GROUPS, 1, 4, WISHES, some[100:]))
        self.assertEqual(len({base} | {digest(one) for one in others}), 6)


class Digests(unittest.TestCase):
    def cluster(self):
        return rerun(GROUPS, 1, 12, WISHES, choices(300))

    def test_of_a_machine(self):
        one = self.cluster()
        for name in one.names():
            told = machine_digest(one, name)
            self.assertEqual((type(told), told[0]), (tuple, name))
            self.assertIn(hash_of(told), range(2147483647))
        self.assertEqual(machine_digest(one, "g1"), machine_digest(self.cluster(), "g1"))

    def test_one_that_is_down(self):
        one = Cluster(GROUPS)
        up = machine_digest(one, "g1")
        one.crash("g1")
        down = machine_digest(one, "g1")
        self.assertEqual(down[0], "g1")
        self.assertNotEqual(up, down)
        one.disks["g1"].kept = (1, 2, 3)
        self.assertNotEqual(machine_digest(one, "g1"), down)

    def test_a_number(self):
        self.assertIn(digest(self.cluster()), range(2147483647))
        self.assertEqual(digest(self.cluster()), digest(self.cluster()))

    def test_what_differs(self):
        def entry(one):
            one.servers["g1"].agreement.journal.entries.append(Entry(1, ("x",)))

        def data(one):
            [shard for shard in one.servers["h1"].book.shards if shard.state == "kept"][0].data["x"] = "y"

        def history(one):
            one.clients["u"].events.append((9, ("get", "a"), 1, None, None))

        def answer(one):
            number, wish, asked, _, _ = one.clients["u"].events[0]
            one.clients["u"].events[0] = (number, wish, asked, 7, ("value", "other"))

        changes = (
            entry, data, history, answer, lambda one: one.net.send("a", "b", None), lambda one: one.net.cut(("h1",), 2),
            lambda one: one.servers["m1"].agreement.journal.set_term(99, None), lambda one: one.disks["g2"].append("x"),
            lambda one: one.add_machine("g", "g9"), lambda one: setattr(one.servers["g3"].agreement, "committed", 0),
            lambda one: one.crash("h1") if "h1" in one.servers else one.start("h1"))
        found = {digest(self.settled())}
        for change in changes:
            one = self.settled()
            change(one)
            found.add(digest(one))
        self.assertEqual(len(found), len(changes) + 1)

    def settled(self):
        one = self.cluster()
        one.settle()
        one.rounds(40)
        return one

    def test_what_cannot_be_leaves_it_as_it_is(self):
        one = self.settled()
        before = digest(one)
        while one.net.messages:
            one.net.messages.pop()
            before = digest(one)
        for word in ("deliver 3", "drop 1", "repeat 0", "start 2", "heal 1"):
            one.act(choice_of(word))
            self.assertEqual(digest(one), before, word)


if __name__ == "__main__":
    unittest.main()
