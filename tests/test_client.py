"""Point [11]: wishes, and clients that ask until they are answered."""

import unittest

from shardstack.client import Client, check_wish
from shardstack.errors import AskError
from shardstack.keeper import Keeper
from shardstack.shards import changed_map, first_map, shard_of

MAP_MEMBERS = ("m1", "m2")
ONE = changed_map(first_map(), ("join", "g", ("g1", "g2", "g3")))
TWO = changed_map(ONE, ("join", "h", ("h1",)))
# Shards 0 to 3 are g's under the second map, 4 to 7 are h's.
LOW, LOWER, HIGH = "a", "b", "d"
OTHER_DEAL = ("ghost", 1, 1, shard_of(LOW))


def client(*wishes, shown=ONE):
    """Return a client that has asked for its first wish by a map that it knows, and what it sent."""
    found = Client("user", MAP_MEMBERS, wishes)
    found.go_on(5)
    [(target, message)] = found.take_outbox()
    assert target in MAP_MEMBERS and message == ("request", "user", 1, ("map", None))
    found.receive(("reply", 1, ("map", shown.shown()), 3), 6)
    return found


def sent(one):
    """Return the target and the command of the only message that a client sends."""
    [(target, message)] = one.take_outbox()
    assert message[:3] == ("request", "user", one.asked)
    return target, message[3]


def answer(one, told, place=1, time=9):
    """Answer what a client asked last."""
    one.receive(("reply", one.asked, told, place), time)


def later(one, time=9, most=40):
    """Let turns pass until a client asks again; return how many, and the message."""
    for many in range(1, most):
        one.go_on(time)
        found = one.take_outbox()
        if found:
            assert len(found) == 1
            return many, found[0][0], found[0][1][3]
    raise AssertionError("it asks no more")


class Shards(unittest.TestCase):
    def test_the_keys_of_these_tests(self):
        self.assertEqual([TWO.group_of(key) for key in (LOW, LOWER, HIGH)], ["g", "g", "h"])
        self.assertLess(shard_of(LOW), shard_of(LOWER))


class Wishes(unittest.TestCase):
    RIGHT = (
        ("get", "a"), ("put", "a", "1"), ("append", "a", "1"), ("swap", "a", None, "1"), ("swap", "a", "1", None),
        ("delete", "a"), ("all", (("get", "a"), ("put", "a", "1"))), ("read", "a"), ("near", "a"), ("read", "k" * 30),
        ("deal", (("get", "a"),)), ("deal", (("put", "a", "1"), ("get", "b"), ("swap", "d", "1", None))),
        ("put", "a", "v" * 200), ("put", "a", ""),
    )
    WRONG = (
        None, 7, "get", (), ("get",), ["get", "a"], (7, "a"), (None, "a"), (("get", "a"), "a"),
        ("other", "a"), ("get", "a", "b"), ("put", "a"), ("put", "a", None), ("append", "a", "v" * 201), ("get", ""),
        ("get", "k" * 31), ("get", "%"), ("all", ()), ("all", (("get", "a"), ("get", "b"))),
        ("read", "a", "b"), ("read", ""), ("read", 7), ("near", "a", 1), ("near", "k" * 31), ("near", None),
        ("deal", ()), ("deal", [("get", "a")]), ("deal", ("get", "a")), ("deal", (("get", "a"),), 1), ("deal", 7),
        ("deal", (("all", (("get", "a"),)),)), ("deal", (("get", "a"), ("all", ()))), ("deal", (("read", "a"),)),
        ("deal", (("get", "a"), 7)), ("deal", (("put", "a"),)), ("deal", (("deal", (("get", "a"),)),)), ("deal", ((),)),
    )

    def test_right_ones(self):
        for wish in self.RIGHT:
            self.assertEqual(check_wish(wish), wish)

    def test_wrong_ones(self):
        for wish in self.WRONG:
            with self.assertRaises(AskError, msg=repr(wish)):
                check_wish(wish)
            with self.assertRaises(AskError, msg=repr(wish)):
                Client("user", MAP_MEMBERS, [("get", "a"), wish])
            one = Client("user", MAP_MEMBERS, ())
            with self.assertRaises(AskError, msg=repr(wish)):
                one.begin(wish)
            self.assertEqual((one.events, one.take_outbox(), one.is_done()), ([], [], True))


class OneAfterAnother(unittest.TestCase):
    def test_new(self):
        one = Client("user", MAP_MEMBERS, (("get", "a"),))
        self.assertEqual((one.name, one.map.shown(), one.events, list(one.wishes)),
                         ("user", first_map().shown(), [], [("get", "a")]))
        self.assertEqual((one.is_done(), one.take_outbox()), (False, []))
        self.assertTrue(Client("user", MAP_MEMBERS, ()).is_done())

    def test_nothing_to_ask(self):
        one = Client("user", MAP_MEMBERS, ())
        one.ask()
        one.go_on(3)
        self.assertEqual((one.take_outbox(), one.asked), ([], 0))

    def test_nobody_to_ask(self):
        one = Client("user", (), (("get", "a"),))
        one.begin(("get", "a"))
        one.go_on(3)
        self.assertEqual((one.take_outbox(), one.asked, one.is_done()), ([], 0, False))

    def test_the_map_first(self):
        one = Client("user", MAP_MEMBERS, (("put", LOW, "1"),))
        one.begin(("put", LOW, "1"))
        self.assertEqual(sent(one), ("m1", ("map", None)))
        answer(one, ("map", first_map().shown()))
        self.assertEqual(one.take_outbox(), [])
        many, target, command = later(one)
        self.assertEqual((target, command), ("m2", ("map", None)))
        answer(one, ("map", ONE.shown()))
        self.assertEqual(sent(one)[1], ("ask", "user", 1, ("put", LOW, "1")))
        self.assertEqual(one.map.shown(), ONE.shown())

    def test_events(self):
        one = client(("put", LOW, "1"), ("read", LOW))
        self.assertEqual(one.events, [(1, ("put", LOW, "1"), 5, None, None)])
        self.assertEqual(sent(one)[1], ("ask", "user", 1, ("put", LOW, "1")))
        answer(one, ("done",), time=8)
        self.assertEqual(one.events, [(1, ("put", LOW, "1"), 5, 8, ("done",))])
        self.assertEqual((one.take_outbox(), one.is_done()), ([], False))
        one.go_on(11)
        self.assertEqual(one.events[1:], [(2, ("read", LOW), 11, None, None)])
        self.assertEqual(sent(one)[1], ("read", LOW))
        self.assertFalse(one.is_done())
        answer(one, ("value", "1"), time=15)
        self.assertEqual(one.events[1:], [(2, ("read", LOW), 11, 15, ("value", "1"))])
        self.assertTrue(one.is_done())
        one.go_on(16)
        self.assertEqual((one.take_outbox(), len(one.events)), ([], 2))

    def test_end(self):
        one = client(("put", LOW, "1"))
        self.assertIsNone(one.end(("done",), 12))
        self.assertEqual(one.events, [(1, ("put", LOW, "1"), 5, 12, ("done",))])
        self.assertTrue(one.is_done())

    def test_serials_are_for_operations_alone(self):
        wishes = (("read", LOW), ("put", LOW, "1"), ("near", LOW), ("deal", (("get", LOW),)), ("get", LOW))
        one = client(*wishes)
        serials = []
        for time in range(20, 40):
            for _, message in one.take_outbox():
                word = message[3][0]
                if word == "ask":
                    serials.append(message[3][2])
                answer(one, {"read": ("value", None), "ask": ("done",), "near": ("near", None, 1), "prepare": ("ready",),
                             "decide": ("decided", True), "finish": ("over", (("value", None),))}[word], time=time)
            one.go_on(time)
        self.assertEqual((serials, one.is_done()), ([1, 2], True))
        self.assertEqual([event[0] for event in one.events], [1, 2, 3, 4, 5])

    def test_every_answer_of_a_keeper_ends_an_operation(self):
        for told in (("value", "1"), ("value", None), ("done",), ("refused", "too long"), ("all", (("done",),))):
            one = client(("append", LOW, "1"))
            answer(one, told)
            self.assertEqual((one.events[0][4], one.is_done()), (told, True))


class Again(unittest.TestCase):
    def test_no_answer(self):
        one = client(("put", LOW, "1"))
        first, command = sent(one)
        targets = [first]
        for _ in range(2):
            many, target, again = later(one)
            self.assertGreater(many, 3)
            self.assertEqual(again, command)
            targets.append(target)
        self.assertEqual(len(set(targets)), 3)

    def test_for_a_newer_map_now_and_then(self):
        one = client(("put", LOW, "1"))
        sent(one)
        self.assertIn(("map", None), [later(one)[2] for _ in range(6)])

    def test_only_the_answer_to_what_was_asked_last(self):
        one = client(("put", LOW, "1"))
        sent(one)
        old = one.asked
        later(one)
        one.receive(("reply", old, ("done",), 1), 9)
        self.assertEqual(one.events[0][3:], (None, None))
        one.receive(("reply", one.asked + 1, ("done",), 1), 9)
        self.assertEqual(one.events[0][3:], (None, None))
        answer(one, ("done",))
        self.assertEqual(one.events[0][3:], (9, ("done",)))

    def test_an_answer_that_comes_twice(self):
        one = client(("put", LOW, "1"), ("get", LOW))
        answer(one, ("done",), time=8)
        answer(one, ("done",), time=9)
        self.assertEqual(one.events, [(1, ("put", LOW, "1"), 5, 8, ("done",))])
        one = client(("put", LOW, "1"))
        sent(one)
        for _ in range(40):
            answer(one, ("locked", OTHER_DEAL))
        self.assertEqual(one.take_outbox(), [])

    def test_follow(self):
        one = client(("put", LOW, "1"))
        first, command = sent(one)
        answer(one, ("follow", "g9"))
        self.assertEqual(sent(one), ("g9", command))
        answer(one, ("follow", "g2"))
        self.assertEqual(sent(one), ("g2", command))
        answer(one, ("done",))
        one.begin(("get", LOW))
        self.assertEqual(sent(one)[0], "g2")

    def test_follow_nobody(self):
        one = client(("put", LOW, "1"))
        first, command = sent(one)
        answer(one, ("follow", None))
        self.assertEqual(one.take_outbox(), [])
        _, target, again = later(one)
        self.assertEqual(again, command)
        self.assertNotEqual(target, first)
        self.assertIn(target, ONE.groups["g"])

    def test_a_leader_that_leads_no_more(self):
        one = client(("put", LOW, "1"))
        sent(one)
        answer(one, ("follow", "g9"))
        sent(one)
        answer(one, ("follow", None))
        self.assertIn(later(one)[1], ONE.groups["g"])

    def test_follow_itself(self):
        one = client(("put", LOW, "1"))
        first, command = sent(one)
        answer(one, ("follow", first))
        self.assertEqual(one.take_outbox(), [])
        self.assertEqual(later(one)[1:], (first, command))

    def test_a_leader_that_does_not_answer(self):
        one = client(("put", LOW, "1"))
        sent(one)
        answer(one, ("follow", "g9"))
        sent(one)
        self.assertIn(later(one)[1], ONE.groups["g"])

    def test_moved(self):
        one = client(("put", HIGH, "1"))
        _, command = sent(one)
        answer(one, ("moved",))
        target, asked = sent(one)
        self.assertEqual((target in MAP_MEMBERS, asked), (True, ("map", None)))
        answer(one, ("map", TWO.shown()))
        self.assertEqual(sent(one), ("h1", command))
        answer(one, ("moved",))
        self.assertEqual(sent(one)[1], ("map", None))
        for old in (TWO, ONE):
            answer(one, ("map", old.shown()))
            self.assertEqual((one.take_outbox(), one.map.number), ([], 2))
            self.assertEqual(later(one)[1:], ("h1", command))
            answer(one, ("moved",))
            sent(one)

    def test_serials_of_an_earlier_client_of_the_name(self):
        keeper = Keeper("g")
        keeper.apply(("map", ONE.shown()))
        for serial, value in ((1, "x"), (2, "y"), (3, "z")):
            keeper.ask("user", serial, ("append", LOW, value))
        one = client(("append", LOW, "1"), ("append", LOW, "2"), shown=ONE)
        for time in range(10, 30):
            for _, message in one.take_outbox():
                answer(one, keeper.apply(message[3]), time=time)
            one.go_on(time)
        self.assertEqual([event[4] for event in one.events], [("value", "xyz1"), ("value", "xyz12")])


class Near(unittest.TestCase):
    def test_places(self):
        one = client(("put", LOW, "1"), ("near", LOW), ("near", LOW), ("read", LOWER), ("near", LOW))
        answer(one, ("done",), place=7)
        one.take_outbox()
        one.go_on(10)
        self.assertEqual(sent(one)[1], ("near", LOW, 7, 1))
        answer(one, ("near", "1", 9), place=9)
        self.assertEqual(one.events[-1][1:], (("near", LOW), 10, 9, ("near", "1", 9)))
        one.go_on(10)
        self.assertEqual(sent(one)[1], ("near", LOW, 9, 1))
        answer(one, ("near", "1", 9), place=9)
        one.go_on(10)
        sent(one)
        answer(one, ("value", None), place=12)
        one.go_on(10)
        self.assertEqual(sent(one)[1], ("near", LOW, 12, 1))

    def test_an_answer_of_before_does_not_set_the_place_back(self):
        one = client(("put", LOW, "1"), ("put", LOW, "2"), ("near", LOW))
        answer(one, ("done",), place=7)
        one.go_on(10)
        answer(one, ("done",), place=6)
        one.take_outbox()
        one.go_on(10)
        self.assertEqual(sent(one)[1], ("near", LOW, 7, 1))

    def test_who_lags_behind(self):
        one = client(("near", LOW))
        first, command = sent(one)
        answer(one, ("follow", None))
        _, target, again = later(one)
        self.assertEqual(again, command)
        self.assertNotEqual(target, first)

    def test_each_machine_has_its_turn(self):
        one = client(("near", LOW), ("near", LOW), ("near", LOW))
        targets = []
        for _ in range(3):
            targets.append(sent(one)[0])
            answer(one, ("near", None, 1))
            one.go_on(10)
        self.assertEqual(sorted(targets), ["g1", "g2", "g3"])

    def test_another_group_than_before(self):
        # A map that says so may be an old one: only a leader knows whether it still keeps the shard.
        one = client(("put", HIGH, "1"), ("near", HIGH), ("near", HIGH))
        answer(one, ("done",), place=30)
        one.take_outbox()
        one.go_on(10)
        sent(one)
        answer(one, ("moved",))
        sent(one)
        answer(one, ("map", TWO.shown()))
        self.assertEqual(sent(one), ("h1", ("read", HIGH)))
        answer(one, ("value", "1"), place=4)
        self.assertEqual(one.events[-1][4], ("near", "1", 4))
        one.go_on(10)
        self.assertEqual(sent(one), ("h1", ("near", HIGH, 4, 2)))


class Deals(unittest.TestCase):
    WISH = ("deal", (("put", LOWER, "1"), ("get", LOW), ("append", LOWER, "2"), ("get", HIGH)))
    A, B, C = shard_of(LOW), shard_of(LOWER), shard_of(HIGH)

    def begun(self, shown=ONE):
        return client(self.WISH, shown=shown)

    def deal(self, attempt=1):
        return ("user", 1, attempt, self.A)

    def prepared(self, one):
        """Let all shards be ready."""
        found = []
        for _ in range(3):
            found.append(sent(one)[1])
            answer(one, ("ready",))
        return found

    def test_good(self):
        one = self.begun(TWO)
        self.assertEqual(self.prepared(one), [
            ("prepare", self.deal(), self.A, (("get", LOW),)),
            ("prepare", self.deal(), self.B, (("put", LOWER, "1"), ("append", LOWER, "2"))),
            ("prepare", self.deal(), self.C, (("get", HIGH),))])
        target, command = sent(one)
        self.assertEqual((target in ONE.groups["g"], command), (True, ("decide", self.deal(), self.A, True)))
        answer(one, ("decided", True))
        for shard, told in ((self.A, (("value", "a"),)), (self.B, (("done",), ("value", "12"))),
                            (self.C, (("value", None),))):
            target, command = sent(one)
            self.assertEqual(command, ("finish", self.deal(), shard, True))
            self.assertEqual(target == "h1", shard == self.C)
            self.assertFalse(one.is_done())
            answer(one, ("over", told), time=30 + shard)
        self.assertEqual(one.events, [(1, self.WISH, 5, 30 + self.C, (
            "deal", (("done",), ("value", "a"), ("value", "12"), ("value", None))))])
        self.assertTrue(one.is_done())

    def test_a_lock_is_met(self):
        one = self.begun()
        sent(one)
        answer(one, ("ready",))
        self.assertEqual(sent(one)[1][0:3], ("prepare", self.deal(), self.B))
        answer(one, ("locked", OTHER_DEAL))
        # It gives up, and unlocks what it has, and what a late message may still lock.
        for shard in (self.A, self.B):
            self.assertEqual(sent(one)[1], ("finish", self.deal(), shard, False))
            answer(one, ("over", None))
        self.assertEqual((one.take_outbox(), one.is_done(), one.events[0][3:]), ([], False, (None, None)))
        # It begins again.
        self.assertEqual(later(one)[2][:3], ("prepare", self.deal(2), self.A))
        answer(one, ("ready",))
        one.take_outbox()
        answer(one, ("ready",))
        one.take_outbox()
        answer(one, ("ready",))
        self.assertEqual(sent(one)[1], ("decide", self.deal(2), self.A, True))

    def test_decided_off_by_another(self):
        one = self.begun()
        self.prepared(one)
        sent(one)
        answer(one, ("decided", False))
        for shard in (self.A, self.B, self.C):
            self.assertEqual(sent(one)[1], ("finish", self.deal(), shard, False))
            answer(one, ("over", None))
        self.assertFalse(one.is_done())
        self.assertEqual(later(one)[2][:3], ("prepare", self.deal(2), self.A))

    def test_finished_by_another_before_it_was_prepared(self):
        one = self.begun()
        sent(one)
        answer(one, ("over", None))
        self.assertEqual(sent(one)[1], ("finish", self.deal(), self.A, False))
        answer(one, ("over", None))
        self.assertEqual(later(one)[2][:3], ("prepare", self.deal(2), self.A))

    def test_each_step_is_asked_again(self):
        one = self.begun()
        sent(one)
        _, _, command = later(one)
        self.assertEqual(command[:3], ("prepare", self.deal(), self.A))
        answer(one, ("moved",))
        self.assertEqual(sent(one)[1], ("map", None))
        answer(one, ("map", TWO.shown()))
        self.prepared(one)
        first = sent(one)[1]
        self.assertEqual(later(one)[2], first)

    def test_locks_that_stay_are_freed(self):
        for wish in (("put", LOW, "1"), ("read", LOW), ("near", LOW)):
            one = client(wish)
            command = sent(one)[1]
            for _ in range(200):
                answer(one, ("locked", OTHER_DEAL))
                freeing = [row[1][3] for row in one.take_outbox()]
                if freeing:
                    break
                self.assertEqual(later(one)[2], command)
            self.assertEqual(freeing, [("decide", OTHER_DEAL, OTHER_DEAL[3], False)])
            answer(one, ("decided", False))
            self.assertEqual(sent(one)[1], ("finish", OTHER_DEAL, self.A, False))
            answer(one, ("over", None))
            self.assertEqual(sent(one)[1][:2], command[:2])
            answer(one, ("near", None, 1) if wish[0] == "near" else ("done",))
            self.assertTrue(one.is_done())

    def test_what_was_decided_before_holds(self):
        one = client(("put", LOW, "1"))
        for _ in range(200):
            one.take_outbox()
            answer(one, ("locked", OTHER_DEAL))
            if one.take_outbox():
                break
            later(one)
        answer(one, ("decided", True))
        self.assertEqual(sent(one)[1], ("finish", OTHER_DEAL, self.A, True))
        answer(one, ("over", (("done",),)))
        self.assertEqual(sent(one)[1], ("ask", "user", 1, ("put", LOW, "1")))

    def test_a_deal_frees_locks_that_stay(self):
        one = self.begun()
        freed = []
        for _ in range(600):
            for _, message in one.take_outbox():
                word, deal, shard = message[3][:3]
                if word == "prepare" and shard == self.B and deal not in freed and not freed:
                    answer(one, ("locked", OTHER_DEAL))
                elif word == "prepare":
                    answer(one, ("ready",))
                elif word == "decide":
                    answer(one, ("decided", message[3][3]))
                else:
                    if deal == OTHER_DEAL:
                        self.assertEqual(message[3][2:], (self.B, False))
                        freed.append(deal)
                    told = {self.A: (("value", None),), self.B: (("done",), ("value", "12")), self.C: (("value", None),)}
                    answer(one, ("over", told[shard] if message[3][3] else None))
            one.go_on(9)
        self.assertEqual((freed, one.is_done()), ([OTHER_DEAL], True))
        self.assertEqual(one.events[0][4], ("deal", (("done",), ("value", None), ("value", "12"), ("value", None))))


if __name__ == "__main__":
    unittest.main()
