"""Points [7], [8], [9]: operations and their answers, serials, shards that move, deals."""

import itertools
import unittest

from shardstack.errors import AskError
from shardstack.keeper import (Keeper, Shard, carry, check_operation, check_value, keys_of, rows_of, shard_from)
from shardstack.shards import changed_map, first_map, shard_of
from shardstack.wire import pack, unpack

LONG = "x" * 200
# Keys of shard 1, but for the last one, which is of shard 2.
KEY, SAME, OTHER = "a", "i", "b"
DEAL = ("user", 3, 1, 1)
LATER = ("user", 3, 2, 1)


def maps(*changes):
    """Return what each map shows, from the first one on."""
    found = [first_map()]
    for change in changes:
        found.append(changed_map(found[-1], change))
    return [one.shown() for one in found]


ONE = maps(("join", "g", ("g1", "g2")))
# The second map gives shards 4 to 7 to h, the third one gives all to g again.
TWO = maps(("join", "g", ("g1", "g2")), ("join", "h", ("h1",)), ("leave", "h"))


def keeper(group="g", shown=ONE):
    """Return a keeper that works by the last of some maps."""
    found = Keeper(group)
    for one in shown[1:]:
        assert found.apply(("map", one)) == ("done",)
    return found


def asks(one, *operations):
    """Return the answers to a client's operations, one serial after another."""
    return [one.ask("user", serial, operation) for serial, operation in enumerate(operations, 1)]


class Operations(unittest.TestCase):
    GOOD = (("get", "a"), ("put", "a", ""), ("put", "a", LONG), ("append", "a", "b"), ("append", "x" * 30, LONG),
            ("swap", "a", None, None), ("swap", "a", "b", None), ("swap", "a", None, LONG), ("delete", "a"),
            ("all", (("get", "a"),)), ("all", (("put", KEY, "b"), ("swap", SAME, None, "c"), ("delete", KEY))))

    BAD = ((), None, "get", 7, [], ["get", "a"], ("get",), ("get", "a", "b"), ("put", "a"), ("put", "a", "b", "c"),
           ("put", "a", None), ("append", "a", None), ("append", "a"), ("swap", "a", "b"), ("swap", "a", "b", "c", "d"),
           ("swap", "a", 1, "b"), ("swap", "a", "b", 1), ("delete",), ("delete", "a", "b"), ("other", "a"), (1, "a"),
           (None, "a"), ((), "a"), ("read", "a"), ("near", "a"), ("deal", (("get", "a"),)), ("", "a"),
           ("get", ""), ("get", "x" * 31), ("get", "%"), ("get", 1), ("get", None), ("get", ("a",)), ("put", 5, "a"),
           ("put", "a", LONG + "x"), ("put", "a", "%"), ("put", "a", "\t"), ("put", "a", 5), ("put", "a", ("b",)),
           ("append", "a", LONG + "x"), ("swap", "a", LONG + "x", "b"), ("swap", "a", "b", LONG + "x"),
           ("swap", "a", "%", "b"), ("swap", "a", "b", "\r"), ("put", "a", True),
           ("all",), ("all", ()), ("all", (), ()), ("all", [("get", "a")]), ("all", None), ("all", "a"),
           ("all", ("get", "a")), ("all", (("get", "a"), 5)), ("all", (("get", "a"), ())), ("all", (("get",),)),
           ("all", (("get", "a"),), 1), ("all", (("all", (("get", "a"),)),)), ("all", (("get", "a"), ("all",))),
           ("all", (("get", KEY), ("get", OTHER))), ("all", (("get", "a"), ("put", "a", "%"))))

    def test_check_operation(self):
        for operation in self.GOOD:
            self.assertIs(check_operation(operation), operation)
        for operation in self.BAD:
            with self.assertRaises(AskError, msg=operation):
                check_operation(operation)

    def test_check_value(self):
        for value in ("", "a", LONG, "\n &~"):
            for may_lack in (True, False):
                self.assertEqual(check_value(value, may_lack), value)
        self.assertIsNone(check_value(None, True))
        with self.assertRaises(AskError):
            check_value(None, False)
        for value in (LONG + "x", "%", "a\tb", "\x7f", "\xe4", 1, 0, True, (), ("a",), b"a"):
            for may_lack in (True, False):
                with self.assertRaises(AskError):
                    check_value(value, may_lack)

    def test_keys_of(self):
        self.assertEqual(keys_of(("get", "a")), ("a",))
        self.assertEqual(keys_of(("swap", "b", None, "c")), ("b",))
        operations = (("put", SAME, "1"), ("get", KEY), ("delete", SAME), ("get", KEY))
        self.assertEqual(keys_of(("all", operations)), (SAME, KEY))

    def check(self, data, operation, answer, left):
        data = dict(data)
        self.assertEqual(carry(data, operation), answer)
        self.assertEqual(data, left)

    def test_carry(self):
        self.check({}, ("get", "a"), ("value", None), {})
        self.check({"a": "1"}, ("get", "a"), ("value", "1"), {"a": "1"})
        self.check({}, ("put", "a", "1"), ("done",), {"a": "1"})
        self.check({"a": "1", "b": "2"}, ("put", "a", ""), ("done",), {"a": "", "b": "2"})
        self.check({}, ("append", "a", "1"), ("value", "1"), {"a": "1"})
        self.check({"a": "1"}, ("append", "a", "23"), ("value", "123"), {"a": "123"})
        self.check({}, ("append", "a", ""), ("value", ""), {"a": ""})
        self.check({"a": "1"}, ("delete", "a"), ("done",), {})
        self.check({"b": "1"}, ("delete", "a"), ("done",), {"b": "1"})

    def test_appends_that_are_too_long(self):
        self.check({"a": LONG[1:]}, ("append", "a", "y"), ("value", LONG[1:] + "y"), {"a": LONG[1:] + "y"})
        self.check({"a": LONG}, ("append", "a", "y"), ("refused", "too long"), {"a": LONG})
        self.check({"a": "yy"}, ("append", "a", LONG[1:]), ("refused", "too long"), {"a": "yy"})
        self.check({"a": LONG}, ("append", "a", ""), ("value", LONG), {"a": LONG})
        self.check({}, ("append", "a", LONG), ("value", LONG), {"a": LONG})

    def test_swap(self):
        self.check({"a": "1"}, ("swap", "a", "1", "2"), ("done",), {"a": "2"})
        self.check({"a": "1"}, ("swap", "a", "2", "3"), ("value", "1"), {"a": "1"})
        self.check({}, ("swap", "a", "1", "2"), ("value", None), {})
        self.check({}, ("swap", "a", None, "2"), ("done",), {"a": "2"})
        self.check({"a": "1"}, ("swap", "a", None, "2"), ("value", "1"), {"a": "1"})
        self.check({"a": "1"}, ("swap", "a", "1", None), ("done",), {})
        self.check({"a": "1"}, ("swap", "a", "2", None), ("value", "1"), {"a": "1"})
        self.check({}, ("swap", "a", None, None), ("done",), {})
        self.check({"a": ""}, ("swap", "a", None, "1"), ("value", ""), {"a": ""})
        self.check({"a": ""}, ("swap", "a", "", "1"), ("done",), {"a": "1"})

    def test_all(self):
        operations = (("put", KEY, "1"), ("append", KEY, "2"), ("append", SAME, LONG), ("append", SAME, "x"),
                      ("swap", KEY, "1", "3"), ("get", KEY), ("delete", KEY), ("get", KEY))
        self.check({}, ("all", operations),
                   ("all", (("done",), ("value", "12"), ("value", LONG), ("refused", "too long"), ("value", "12"),
                            ("value", "12"), ("done",), ("value", None))), {SAME: LONG})


class Shards(unittest.TestCase):
    def test_new(self):
        shard = Shard("kept", 4)
        self.assertEqual((shard.state, shard.number), ("kept", 4))
        self.assertEqual((shard.data, shard.sessions, shard.locks, shard.deals, shard.decided), ({}, {}, {}, {}, {}))
        self.assertEqual(shard.tables(), ({}, {}, {}, {}, {}))
        self.assertIs(shard.tables()[0], shard.data)
        self.assertIs(shard.tables()[4], shard.decided)
        self.assertEqual(shard.shown(), ("kept", 4, (), (), (), (), ()))

    def test_rows_of(self):
        self.assertEqual(rows_of({}), ())
        self.assertEqual(rows_of({"b": 1, "a": (2,), "B": None}), (("B", None), ("a", (2,)), ("b", 1)))
        self.assertEqual(rows_of({DEAL: 1, LATER: 2, ("a", 9, 9, 9): 3}),
                         ((("a", 9, 9, 9), 3), (DEAL, 1), (LATER, 2)))

    def test_shown_and_back(self):
        one = keeper()
        one.ask("user", 1, ("put", KEY, "1"))
        one.ask("other", 4, ("append", SAME, "2"))
        one.apply(("prepare", DEAL, 1, (("put", KEY, "3"),)))
        one.apply(("finish", LATER, 1, False))
        one.apply(("decide", LATER, 1, False))
        shard = one.shards[1]
        found = shard_from(shard.shown())
        self.assertIsInstance(found, Shard)
        self.assertEqual((found.state, found.number, found.tables()), (shard.state, shard.number, shard.tables()))
        self.assertEqual(unpack(pack(shard.shown())), shard.shown())
        self.assertEqual(shard.shown()[2], ((KEY, "1"), (SAME, "2")))
        found.data[KEY] = "changed"
        self.assertEqual(shard.data[KEY], "1")


class Asks(unittest.TestCase):
    def test_new(self):
        one = Keeper("g")
        self.assertEqual((one.group, one.map, one.old_map), ("g", first_map().shown(), first_map().shown()))
        self.assertEqual([(shard.state, shard.number) for shard in one.shards], [("away", 0)] * 8)
        self.assertEqual((one.lacking(), one.read(KEY), one.ask("user", 1, ("get", KEY))), ([], ("moved",), ("moved",)))

    def test_answers(self):
        self.assertEqual(
            asks(keeper(), ("get", KEY), ("put", KEY, "1"), ("append", KEY, "2"), ("swap", KEY, "12", "3"),
                 ("swap", KEY, "4", "5"), ("get", KEY), ("delete", KEY), ("get", KEY),
                 ("all", (("put", KEY, "6"), ("get", SAME)))),
            [("value", None), ("done",), ("value", "12"), ("done",), ("value", "3"), ("value", "3"), ("done",),
             ("value", None), ("all", (("done",), ("value", None)))])

    def test_by_the_log(self):
        one = keeper()
        self.assertEqual(one.apply(("ask", "user", 1, ("put", KEY, "1"))), ("done",))
        self.assertEqual(one.apply(("ask", "user", 2, ("get", KEY))), ("value", "1"))
        self.assertEqual(one.read(KEY), ("value", "1"))
        self.assertEqual(one.read(OTHER), ("value", None))
        for command in (("nothing",), ("members", ("g1",))):
            before = one.make_image()
            self.assertEqual((one.apply(command), one.make_image()), (("done",), before))

    def test_wrong_operations(self):
        one = keeper()
        before = one.make_image()
        for operation in Operations.BAD:
            with self.assertRaises(AskError):
                one.ask("user", 1, operation)
        for key in ("", "%", "x" * 31, 5):
            with self.assertRaises(AskError):
                one.read(key)
        self.assertEqual(one.make_image(), before)

    def test_serials(self):
        one = keeper()
        self.assertEqual(one.ask("user", 1, ("append", KEY, "1")), ("value", "1"))
        self.assertEqual(one.ask("user", 1, ("append", KEY, "1")), ("value", "1"))
        self.assertEqual(one.ask("user", 5, ("append", KEY, "2")), ("value", "12"))
        self.assertEqual(one.ask("user", 1, ("append", KEY, "1")), ("old",))
        self.assertEqual(one.ask("user", 4, ("append", KEY, "1")), ("old",))
        self.assertEqual(one.ask("user", 5, ("append", KEY, "2")), ("value", "12"))
        self.assertEqual(one.ask("other", 1, ("append", KEY, "3")), ("value", "123"))
        self.assertEqual(one.ask("user", 5, ("append", KEY, "2")), ("value", "12"))
        self.assertEqual(one.read(KEY), ("value", "123"))

    def test_serials_of_each_shard_by_itself(self):
        one = keeper()
        self.assertNotEqual(shard_of(KEY), shard_of(OTHER))
        self.assertEqual(one.ask("user", 9, ("append", KEY, "1")), ("value", "1"))
        self.assertEqual(one.ask("user", 2, ("append", OTHER, "2")), ("value", "2"))
        self.assertEqual(one.ask("user", 9, ("append", KEY, "1")), ("value", "1"))
        self.assertEqual(one.ask("user", 8, ("append", KEY, "1")), ("old",))

    def test_a_refused_append_is_carried_out_once(self):
        one = keeper()
        one.ask("user", 1, ("put", KEY, LONG))
        self.assertEqual(one.ask("user", 2, ("append", KEY, "x")), ("refused", "too long"))
        one.ask("other", 1, ("put", KEY, ""))
        self.assertEqual(one.ask("user", 2, ("append", KEY, "x")), ("refused", "too long"))

    def test_moved_and_locked_are_not_remembered(self):
        one = keeper()
        one.apply(("prepare", DEAL, 1, (("put", KEY, "1"),)))
        self.assertEqual(one.ask("user", 1, ("append", KEY, "2")), ("locked", DEAL))
        self.assertEqual(one.ask("user", 2, ("all", (("get", SAME), ("get", KEY)))), ("locked", DEAL))
        self.assertEqual(one.read(KEY), ("locked", DEAL))
        self.assertEqual(one.ask("other", 1, ("append", SAME, "2")), ("value", "2"))
        one.apply(("finish", DEAL, 1, True))
        self.assertEqual(one.ask("user", 1, ("append", KEY, "2")), ("value", "12"))

    def test_a_repeated_one_has_its_answer_under_a_lock(self):
        one = keeper()
        one.ask("user", 1, ("append", KEY, "1"))
        one.apply(("prepare", DEAL, 1, (("put", KEY, "2"),)))
        self.assertEqual(one.ask("user", 1, ("append", KEY, "1")), ("value", "1"))

    def test_a_shard_that_is_not_kept(self):
        one = keeper("h", TWO[:3])
        self.assertEqual(one.ask("user", 1, ("put", KEY, "1")), ("moved",))
        self.assertEqual(one.read(KEY), ("moved",))
        for command in (("prepare", DEAL, 1, (("get", KEY),)), ("decide", DEAL, 1, True), ("finish", DEAL, 1, True)):
            self.assertEqual(one.apply(command), ("moved",))


def states(one):
    """Return the states of a keeper's shards."""
    return [shard.state for shard in one.shards]


class Moves(unittest.TestCase):
    def test_first_map(self):
        one = keeper()
        self.assertEqual((one.map, one.old_map, states(one)), (ONE[1], ONE[0], ["kept"] * 8))
        other = keeper("h")
        self.assertEqual((other.map, states(other), other.lacking()), (ONE[1], ["away"] * 8, []))

    def test_freeze_and_lack(self):
        one = keeper("g", TWO[:3])
        self.assertEqual((states(one), one.lacking()), (["kept"] * 4 + ["frozen"] * 4, []))
        self.assertEqual((one.map, one.old_map), (TWO[2], TWO[1]))
        self.assertEqual([shard.number for shard in one.shards], [2] * 8)
        other = keeper("h", TWO[:3])
        self.assertEqual((states(other), other.lacking()), (["away"] * 8, [4, 5, 6, 7]))

    def test_frozen_shards_serve_nobody(self):
        one = keeper()
        key = next("k" + str(number) for number in range(99) if shard_of("k" + str(number)) == 5)
        one.ask("user", 1, ("put", key, "1"))
        one.apply(("map", TWO[2]))
        before = one.make_image()
        for command in (("ask", "user", 1, ("put", key, "1")), ("ask", "user", 2, ("get", key)),
                        ("prepare", DEAL, 5, (("get", key),)), ("decide", DEAL, 5, True), ("finish", DEAL, 5, True)):
            self.assertEqual(one.apply(command), ("moved",))
        self.assertEqual((one.read(key), one.make_image()), (("moved",), before))

    def test_maps_out_of_turn(self):
        one = keeper("g", TWO[:2])
        for shown in (TWO[0], TWO[1], TWO[3]):
            self.assertEqual(one.apply(("map", shown)), ("old",))
        self.assertEqual(one.map, TWO[1])
        one.apply(("map", TWO[2]))
        for shown in (TWO[0], TWO[1], TWO[2]):
            self.assertEqual(one.apply(("map", shown)), ("old",))
        self.assertEqual(one.apply(("map", TWO[3])), ("busy",))
        other = keeper("h", TWO[:3])
        self.assertEqual(other.apply(("map", TWO[3])), ("busy",))
        self.assertEqual((one.map, other.map), (TWO[2], TWO[2]))

    def move(self, one, other, number):
        """Let shards that freeze in one group come to another one."""
        for at, shard in enumerate(one.shards):
            if shard.state == "frozen":
                shown = shard.shown()
                self.assertEqual(other.apply(("install", at, number, shown)), ("done",))
                self.assertEqual(one.apply(("drop", at, number)), ("done",))

    def test_there_and_back(self):
        one, other = keeper("g", TWO[:3]), keeper("h", TWO[:3])
        self.move(one, other, 2)
        self.assertEqual((states(one), states(other)), (["kept"] * 4 + ["away"] * 4, ["away"] * 4 + ["kept"] * 4))
        self.assertEqual((one.lacking(), other.lacking()), ([], []))
        for keeping in (one, other):
            self.assertEqual(keeping.apply(("map", TWO[3])), ("done",))
        self.assertEqual((states(other), one.lacking()), (["away"] * 4 + ["frozen"] * 4, [4, 5, 6, 7]))
        self.move(other, one, 3)
        self.assertEqual((states(one), states(other)), (["kept"] * 8, ["away"] * 8))
        self.assertEqual(one.make_image()[2], tuple(Shard("kept", 3).shown() for _ in range(8)))

    def test_a_shard_keeps_what_it_has(self):
        one, other = keeper(), keeper("h")
        moving = [key for key in ("k" + str(number) for number in range(99)) if shard_of(key) == 5]
        first, second = moving[:2]
        one.ask("user", 1, ("append", first, "1"))
        one.ask("user", 2, ("append", first, "2"))
        one.apply(("prepare", DEAL, 5, (("put", second, "3"),)))
        one.apply(("finish", ("user", 1, 1, 5), 5, False))
        one.apply(("decide", ("user", 2, 1, 5), 5, True))
        for keeping in (one, other):
            keeping.apply(("map", TWO[2]))
        before = one.shards[5].tables()
        self.move(one, other, 2)
        self.assertEqual(other.shards[5].tables(), before)
        self.assertEqual(one.shards[5].tables(), ({}, {}, {}, {}, {}))
        self.assertEqual(other.ask("user", 2, ("append", first, "2")), ("value", "12"))
        self.assertEqual(other.ask("user", 1, ("append", first, "1")), ("old",))
        self.assertEqual(other.read(first), ("value", "12"))
        self.assertEqual(other.read(second), ("locked", DEAL))
        self.assertEqual(other.apply(("prepare", ("user", 1, 1, 5), 5, (("get", first),))), ("over", None))
        self.assertEqual(other.apply(("decide", ("user", 2, 1, 5), 5, False)), ("decided", True))
        self.assertEqual(other.apply(("finish", DEAL, 5, True)), ("over", (("done",),)))
        self.assertEqual(other.read(second), ("value", "3"))

    def test_install_once(self):
        one, other = keeper("g", TWO[:3]), keeper("h", TWO[:3])
        shown = one.shards[5].shown()
        for at, number in ((5, 1), (5, 3), (0, 2)):
            self.assertEqual(other.apply(("install", at, number, shown)), ("old",))
        self.assertEqual(other.apply(("install", 5, 2, shown)), ("done",))
        key = next("k" + str(number) for number in range(99) if shard_of("k" + str(number)) == 5)
        other.ask("user", 1, ("put", key, "1"))
        self.assertEqual(other.apply(("install", 5, 2, shown)), ("old",))
        self.assertEqual(other.read(key), ("value", "1"))
        self.assertEqual(other.lacking(), [4, 6, 7])
        self.assertEqual(one.apply(("install", 5, 2, shown)), ("old",))

    def test_drop_once(self):
        one = keeper("g", TWO[:3])
        for at, number in ((5, 1), (5, 3), (0, 2)):
            self.assertEqual(one.apply(("drop", at, number)), ("old",))
        self.assertEqual(one.apply(("drop", 5, 2)), ("done",))
        self.assertEqual(one.apply(("drop", 5, 2)), ("old",))
        self.assertEqual(states(one), ["kept"] * 4 + ["frozen", "away", "frozen", "frozen"])

    def test_busy_until_all_is_moved(self):
        one, other = keeper("g", TWO[:3]), keeper("h", TWO[:3])
        for at in range(4, 8):
            for keeping in (one, other):
                self.assertEqual(keeping.apply(("map", TWO[3])), ("busy",))
            other.apply(("install", at, 2, one.shards[at].shown()))
            one.apply(("drop", at, 2))
        for keeping in (one, other):
            self.assertEqual(keeping.apply(("map", TWO[3])), ("done",))

    def test_a_single_shard_moves(self):
        shown = maps(("join", "g", ("g1",)), ("join", "h", ("h1",)), ("move", 0, "h"))
        one = keeper("g", shown[:3])
        for at in range(4, 8):
            one.apply(("drop", at, 2))
        self.assertEqual(one.apply(("map", shown[3])), ("done",))
        self.assertEqual(states(one), ["frozen"] + ["kept"] * 3 + ["away"] * 4)

    def test_images(self):
        one = keeper("g", TWO[:3])
        one.ask("user", 1, ("put", KEY, "1"))
        one.apply(("prepare", DEAL, 1, (("put", SAME, "1"), ("swap", KEY, None, None))))
        one.apply(("drop", 4, 2))
        image = one.make_image()
        self.assertIsInstance(image, tuple)
        self.assertEqual(unpack(pack(image)), image)
        other = keeper("g")
        other.ask("user", 7, ("put", KEY, "x"))
        self.assertIsNone(other.install(image))
        self.assertEqual((other.make_image(), other.map, other.old_map), (image, one.map, one.old_map))
        self.assertEqual((states(other), other.lacking()), (states(one), one.lacking()))
        for command in (("ask", "user", 1, ("get", KEY)), ("finish", DEAL, 1, True), ("drop", 5, 2),
                        ("ask", "user", 2, ("get", KEY))):
            self.assertEqual(other.apply(command), one.apply(command))
        self.assertEqual(other.make_image(), one.make_image())
        self.assertNotEqual(one.make_image(), image)
        self.assertEqual(Keeper("g").make_image(), (first_map().shown(), first_map().shown(),
                                                    tuple(Shard("away", 0).shown() for _ in range(8))))


class Deals(unittest.TestCase):
    OPERATIONS = (("put", KEY, "1"), ("append", SAME, "2"), ("get", KEY))
    ANSWERS = (("done",), ("value", "2"), ("value", "1"))

    def prepared(self):
        one = keeper()
        self.assertEqual(one.apply(("prepare", DEAL, 1, self.OPERATIONS)), ("ready",))
        return one

    def test_prepare(self):
        one = self.prepared()
        self.assertEqual(one.shards[1].locks, {KEY: DEAL, SAME: DEAL})
        self.assertEqual(one.shards[1].data, {})
        self.assertEqual(one.apply(("prepare", DEAL, 1, self.OPERATIONS)), ("ready",))
        self.assertEqual(one.apply(("prepare", LATER, 1, (("get", SAME),))), ("locked", DEAL))
        self.assertEqual(one.apply(("prepare", LATER, 1, (("get", "q"), ("get", SAME)))), ("locked", DEAL))
        self.assertEqual(one.shards[1].locks, {KEY: DEAL, SAME: DEAL})
        self.assertEqual(one.apply(("prepare", LATER, 1, (("get", "q"),))), ("ready",))

    def test_locks_of_several_deals(self):
        one = keeper()
        one.apply(("prepare", DEAL, 1, (("get", KEY),)))
        one.apply(("prepare", LATER, 1, (("get", SAME),)))
        third = ("third", 1, 1, 1)
        self.assertEqual(one.apply(("prepare", third, 1, (("get", SAME), ("get", KEY)))), ("locked", LATER))
        self.assertEqual(one.apply(("prepare", third, 1, (("get", KEY), ("get", SAME)))), ("locked", DEAL))
        one.apply(("finish", DEAL, 1, True))
        self.assertEqual(one.shards[1].locks, {SAME: LATER})

    def test_good(self):
        one = self.prepared()
        self.assertEqual(one.apply(("decide", DEAL, 1, True)), ("decided", True))
        self.assertEqual(one.apply(("finish", DEAL, 1, True)), ("over", self.ANSWERS))
        self.assertEqual((one.shards[1].data, one.shards[1].locks), ({KEY: "1", SAME: "2"}, {}))

    def test_not_good(self):
        one = self.prepared()
        self.assertEqual(one.apply(("decide", DEAL, 1, False)), ("decided", False))
        self.assertEqual(one.apply(("finish", DEAL, 1, False)), ("over", None))
        self.assertEqual((one.shards[1].data, one.shards[1].locks), ({}, {}))

    def test_once(self):
        for good, answers in ((True, self.ANSWERS), (False, None)):
            one = self.prepared()
            one.apply(("finish", DEAL, 1, good))
            data = dict(one.shards[1].data)
            for again in (True, False):
                self.assertEqual(one.apply(("finish", DEAL, 1, again)), ("over", answers))
                self.assertEqual(one.apply(("prepare", DEAL, 1, self.OPERATIONS)), ("over", answers))
                self.assertEqual((one.shards[1].data, one.shards[1].locks), (data, {}))

    def test_decided_once(self):
        for good in (True, False):
            one = keeper()
            for again in (good, not good, good):
                self.assertEqual(one.apply(("decide", DEAL, 1, again)), ("decided", good))
            self.assertEqual(one.apply(("decide", LATER, 1, not good)), ("decided", not good))
            self.assertEqual(one.shards[1].decided, {DEAL: good, LATER: not good})

    def test_finished_before_it_was_prepared(self):
        one = keeper()
        self.assertEqual(one.apply(("finish", DEAL, 1, False)), ("over", None))
        self.assertEqual(one.apply(("prepare", DEAL, 1, self.OPERATIONS)), ("over", None))
        self.assertEqual((one.shards[1].locks, one.read(KEY)), ({}, ("value", None)))

    def test_answers_of_operations_that_are_refused(self):
        one = keeper()
        one.ask("user", 1, ("put", KEY, LONG))
        one.apply(("prepare", DEAL, 1, (("append", KEY, "x"), ("put", SAME, "y"), ("swap", SAME, "z", "w"))))
        self.assertEqual(one.apply(("finish", DEAL, 1, True)),
                         ("over", (("refused", "too long"), ("done",), ("value", "y"))))
        self.assertEqual(one.shards[1].data, {KEY: LONG, SAME: "y"})

    def test_steps_in_every_order(self):
        steps = (("prepare", DEAL, 1, self.OPERATIONS), ("prepare", DEAL, 1, self.OPERATIONS),
                 ("decide", DEAL, 1, True), ("decide", DEAL, 1, True), ("finish", DEAL, 1, True),
                 ("finish", DEAL, 1, True))
        for order in set(itertools.permutations(steps)):
            one = keeper()
            over = None
            is_prepared = False
            for step in order:
                answer = one.apply(step)
                if step[0] == "decide":
                    self.assertEqual(answer, ("decided", True))
                elif over is not None:
                    self.assertEqual(answer, over)
                elif step[0] == "prepare":
                    self.assertEqual(answer, ("ready",))
                    is_prepared = True
                else:
                    over = answer
                    self.assertEqual(over, ("over", self.ANSWERS if is_prepared else None))
            self.assertEqual((one.shards[1].data, one.shards[1].locks),
                             ({KEY: "1", SAME: "2"} if is_prepared and over[1] else {}, {}))

    def test_images_keep_deals(self):
        for steps in ((), ("decide",), ("finish",), ("decide", "finish")):
            one = self.prepared()
            for word in steps:
                one.apply((word, DEAL, 1, True))
            other = Keeper("g")
            other.install(one.make_image())
            for command in (("ask", "user", 1, ("get", KEY)), ("prepare", DEAL, 1, self.OPERATIONS),
                            ("decide", DEAL, 1, False), ("finish", DEAL, 1, True), ("ask", "user", 1, ("get", KEY))):
                self.assertEqual(other.apply(command), one.apply(command))


if __name__ == "__main__":
    unittest.main()
