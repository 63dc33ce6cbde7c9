"""Point [15]: a cluster moved by lines, word by word, and histories as lines."""

import unittest

from shardstack.console import Console, answer_text, deal_part, history_lines, map_text, value_text, wish_text
from shardstack.errors import AskError, MachineError, TextError
from shardstack.trace import digest

GROUPS = {"maps": ("m1", "m2", "m3"), "g": ("g1", "g2", "g3"), "h": ("h1", "h2", "h3")}


def console(*lines):
    """Return a console whose first group has joined, after some lines."""
    one = Console(GROUPS)
    assert one.enter("join g") == "map 1: g g g g g g g g"
    for line in lines:
        one.enter(line)
    return one


class Lines(unittest.TestCase):
    def enter(self, one, *rows):
        for line, answer in rows:
            self.assertEqual(one.enter(line), answer, line)

    def test_new(self):
        one = Console(GROUPS, 3)
        self.assertEqual((one.cluster.groups, one.asked, one.cluster.time), (GROUPS, 0, 0))
        self.assertEqual(one.cluster.seed, 3)
        self.assertEqual(Console(GROUPS).cluster.seed, 1)

    def test_operations(self):
        self.enter(
            console(), ("get a", "-"), ("read a", "-"), ("put a 1", "done"), ("get a", "1"), ("read a", "1"),
            ("append a 2", "12"), ("append b x;y", "x;y"), ("swap a 7 8", "12"), ("swap a 12 8", "done"),
            ("swap a - 9", "8"), ("swap a 8 -", "done"), ("get a", "-"), ("swap a - 9", "done"), ("swap c x y", "-"),
            ("delete a", "done"), ("delete a", "done"), ("get a", "-"), ("put z " + "v" * 200, "done"),
            ("append z v", "refused too long"), ("get " + "k" * 30, "-"), ("put " + "k" * 30 + " !", "done"))

    def test_deals(self):
        self.enter(
            console(), ("deal put a 1", "done"), ("deal get a; append a 2;put b x ; swap c - 5", "1; 12; done; done"),
            ("deal get a;get b;get c;get d", "12; x; 5; -"), ("deal swap a 9 0; delete b", "12; done"), ("get b", "-"))

    def test_maps(self):
        self.enter(
            Console(GROUPS), ("join g", "map 1: g g g g g g g g"), ("join h", "map 2: g g g g h h h h"),
            ("move 0 h", "map 3: h g g g h h h h"), ("move 7 g", "map 4: h g g g h h h g"), ("leave g", "map 5: h h h h h h h h"),
            ("join g", "map 6: h h h h g g g g"))

    def test_each_shard_moves(self):
        one = console("join h")
        for shard in range(8):
            places = one.enter(f"move {shard} {'hg'[shard // 4]}").split()[2:]
            self.assertEqual(places, ["h"] * min(4, shard + 1) + ["g"] * max(0, 3 - shard) + ["g"] * max(0, shard - 3) + ["h"] * min(4, 7 - shard))

    def test_keys_that_move(self):
        one = console(*[f"put {key} {key}" for key in "abcdefgh"])
        for line in ("join h", "move 0 h", "leave g", "join g"):
            one.enter(line)
            self.enter(one, *[(f"get {key}", key) for key in "abcdefgh"], ("check", "9 up, linear"))

    def test_refused_changes(self):
        one = console("join h")
        for line in ("join g", "join maps", "join x", "leave x", "leave maps", "move 3 x", "move 3 maps", "move 3 -"):
            self.enter(one, (line, "error: map"))
        self.enter(one, ("leave h", "map 3: g g g g g g g g"), ("leave g", "error: map"), ("put a 1", "done"))

    def test_machines(self):
        one = console("put a 1")
        self.enter(one, ("crash g1", "done"), ("crash g1", "error: machine"), ("start g2", "error: machine"))
        self.assertNotIn("g1", one.cluster.servers)
        self.enter(one, ("get a", "1"), ("check", "8 up, linear"), ("start g1", "done"), ("check", "9 up, linear"))
        for line in ("crash x", "start x", "cut x", "cut g1 x", "crash user1", "crash g", "start -"):
            self.enter(one, (line, "error: machine"))
        self.assertEqual(one.cluster.net.parts, {})

    def test_cut_and_heal(self):
        one = console()
        self.enter(one, ("cut g1 m2", "done"))
        net = one.cluster.net
        self.assertEqual([net.is_cut("g1", name) for name in ("m2", "g2", "m1", "user1")], [False, True, True, True])
        self.enter(one, ("put a 1", "done"), ("heal", "done"))
        self.assertFalse(net.is_cut("g1", "g2"))
        one.enter("crash g2")
        self.enter(one, ("cut g2", "done"))
        self.assertTrue(net.is_cut("g2", "g1"))

    def test_wait(self):
        one = console()
        for text in ("1", "10", "50", "100"):
            before = one.cluster.time
            self.enter(one, (f"wait {text}", "done"))
            self.assertEqual(one.cluster.time, before + int(text))
        for line in ("wait", "wait 0", "wait 2", "wait 01", "wait 1 1", "wait x", "wait -1", "wait -", "wait 1000"):
            self.enter(one, (line, "error: text"))

    def test_leaders(self):
        one = Console(GROUPS)
        self.enter(one, ("leaders", "g=- h=- maps=-"))
        one.enter("wait 100")
        told = [one.cluster.leader_of(group) for group in ("g", "h", "maps")]
        self.assertNotIn(None, told)
        self.enter(one, ("leaders", "g={} h={} maps={}".format(*told)))
        for name in GROUPS["h"]:
            one.enter("crash " + name)
        self.enter(one, ("leaders", "g={} h=- maps={}".format(told[0], told[2])))

    def test_machines_that_are_down_meanwhile(self):
        one = console("put a 1", "crash g1", "crash g2")
        for line in ("put a 2", "get a", "read a", "deal get a; get b"):
            before = one.cluster.time
            self.enter(one, (line, "error: machine"))
            self.assertGreater(one.cluster.time, before + 50)
        self.enter(one, ("check", "7 up, linear"), ("start g1", "done"), ("wait 100", "done"), ("get a", "2"),
                   ("check", "8 up, linear"))
        # Any machine tells the map, but one alone cannot change it.
        one = console("wait 50", "crash m1", "crash m2")
        self.enter(one, ("join h", "error: machine"), ("put a 1", "done"), ("start m1", "done"),
                   ("wait 100", "done"), ("get a", "1"), ("leave g", "map 3: h h h h h h h h"))

    def test_before_a_group_has_joined(self):
        self.enter(Console(GROUPS), ("put a 1", "error: machine"), ("check", "9 up, linear"), ("leave g", "error: map"),
                   ("join g", "map 1: g g g g g g g g"), ("get a", "1"))

    def test_the_check(self):
        one = console("put a 1")
        self.enter(one, ("check", "9 up, linear"))
        one.cluster.clients["user1"].events.append((2, ("get", "a"), one.cluster.time + 1, one.cluster.time + 2, ("value", "7")))
        self.enter(one, ("check", "error: check"))
        one = console()
        for name in GROUPS["g"]:
            one.cluster.servers[name].agreement.part = "leader"
        self.enter(one, ("check", "error: check"))

    def test_wrong_lines_change_nothing(self):
        one = console("put a 1", "join h", "crash h3")
        lines = [
            "", " ", "other", "other a", "Get a", "get", "get a b", "get -", "get " + "k" * 31, "read", "read a b", "near a",
            "all get a", "put a", "put a 1 2", "put a -", "put - 1", "append a", "append a " + "v" * 201, "swap a 1",
            "swap a 1 2 3", "delete", "delete a b", "deal", "deal ", "deal ;", "deal get a;", "deal get a; ;get b", "deal get",
            "deal read a", "deal all a", "deal get a; put b", "deal other a", "join", "join g h", "leave", "leave g h", "move",
            "move 1", "move 1 g h", "move g 1", "move 8 g", "move -1 g", "move 01 g", "crash", "crash g1 g2", "start",
            "start g1 g2", "cut", "heal g1", "heal now", "leaders g", "check all", "wait", "wait 3", "get 100%", "put a %",
            "put a \t", "get\ta", "heal%", "crash g1\x00", "put a \u20ac"]
        state = digest(one.cluster), one.cluster.time, one.asked, sorted(one.cluster.clients)
        for line in lines:
            self.enter(one, (line, "error: text"))
            self.assertEqual((digest(one.cluster), one.cluster.time, one.asked, sorted(one.cluster.clients)), state, line)
        for line in ("crash h3", "crash x", "start h1", "start x", "cut h1 x"):
            self.enter(one, (line, "error: machine"))
            self.assertEqual((digest(one.cluster), one.cluster.time, one.asked, sorted(one.cluster.clients)), state, line)

    def test_clients(self):
        one = console("put a 1", "other", "get a", "join h", "deal get a", "wait 10", "read a")
        self.assertEqual((one.asked, list(one.cluster.clients)), (4, ["user1", "user2", "user3", "user4"]))
        self.assertEqual([one.cluster.clients[f"user{number}"].events[0][1] for number in (1, 2, 3, 4)],
                         [("put", "a", "1"), ("get", "a"), ("deal", (("get", "a"),)), ("read", "a")])

    def test_ask(self):
        one = console()
        self.assertEqual(one.ask(("append", "a", "1")), ("value", "1"))
        self.assertEqual(one.ask(("all", (("get", "a"), ("delete", "a")))), ("all", (("value", "1"), ("done",))))
        self.assertEqual(one.ask(("near", "a"))[1], None)
        self.assertEqual(one.asked, 3)
        for wish in (("other", "a"), ("get",), None, ("deal", ())):
            with self.assertRaises(AskError):
                one.ask(wish)
        self.assertEqual((one.asked, sorted(one.cluster.clients)), (3, ["user1", "user2", "user3"]))
        for name in GROUPS["g"]:
            one.cluster.crash(name)
        with self.assertRaises(MachineError):
            one.ask(("get", "a"))


class Texts(unittest.TestCase):
    def test_deal_part(self):
        for text, operation in (("get a", ("get", "a")), (" put  a 1 ", ("put", "a", "1")), ("swap a - 1", ("swap", "a", None, "1")),
                                ("swap a 1 -", ("swap", "a", "1", None))):
            self.assertEqual(deal_part(text), operation)
        for text in ("", " ", "get", " get "):
            with self.assertRaises(TextError):
                deal_part(text)

    def test_value_text(self):
        self.assertEqual([value_text(value) for value in (None, "", "1", "a b")], ["-", "", "1", "a b"])

    def test_answer_text(self):
        for answer, text in ((("value", "1"), "1"), (("value", None), "-"), (("done",), "done"), (None, "-"),
                             (("refused", "too long"), "refused too long"), (("near", "1", 7), "1"), (("near", None, 7), "-"),
                             (("deal", (("done",), ("value", None), ("value", "x"))), "done; -; x"),
                             (("deal", (("done",),)), "done"), (("all", (("value", "1"), ("done",))), "1; done")):
            self.assertEqual(answer_text(answer), text)

    def test_map_text(self):
        self.assertEqual(map_text(("map", (0, (None,) * 8, ()))), "map 0: - - - - - - - -")
        self.assertEqual(map_text(("map", (12, ("g", "h") * 4, (("g", ("a",)), ("h", ("b",)))))), "map 12: g h g h g h g h")
        self.assertEqual(map_text(("refused", "map")), "error: map")
        self.assertEqual(answer_text(("map", (3, ("g",) * 8, ()))), "map 3: g g g g g g g g")

    def test_wish_text(self):
        for wish, text in ((("put", "a", "1"), "put a 1"), (("swap", "a", None, "1"), "swap a - 1"), (("read", "a"), "read a"),
                           (("near", "a"), "near a"), (("delete", "a"), "delete a"),
                           (("deal", (("get", "a"), ("swap", "b", "1", None))), "deal get a; swap b 1 -"),
                           (("all", (("get", "a"), ("put", "a", "2"))), "all get a; put a 2")):
            self.assertEqual(wish_text(wish), text)

    def test_history_lines(self):
        history = [("user1", 1, ("put", "a", "1"), 3, 7, ("done",)), ("user2", 1, ("get", "b"), 4, None, None),
                   ("user3", 2, ("deal", (("get", "a"), ("delete", "b"))), 10, 12, ("deal", (("value", None), ("done",)))),
                   ("user4", 1, ("append", "a", "2"), 15, 16, ("refused", "too long"))]
        self.assertEqual(history_lines(history), [
            "user1 3 7 put a 1 -> done", "user2 4 - get b -> -", "user3 10 12 deal get a; delete b -> -; done",
            "user4 15 16 append a 2 -> refused too long"])
        self.assertEqual(history_lines([]), [])

    def test_a_history_of_a_console(self):
        one = console("put a 1", "crash g1", "crash g2", "get a")
        rows = one.cluster.history()
        self.assertEqual(history_lines(rows), [f"user1 {rows[0][3]} {rows[0][4]} put a 1 -> done",
                                               f"user2 {rows[1][3]} - get a -> -"])


if __name__ == "__main__":
    unittest.main()
