"""Point [14]: values that are the same in whatever order they are brought together."""

import itertools
import random
import unittest

from shardstack.errors import CheckError
from shardstack.merge import Counter, Members, Register, Stamp, greatest

MACHINES = ("a", "b", "c")


class Together(unittest.TestCase):
    """What holds for each of the four."""

    def check(self, some):
        """In any order, twice, and in groups they are the same; none of them changes."""
        before = [one.shown() for one in some]
        found = set()
        for order in itertools.permutations(some):
            one = order[0]
            for other in order[1:]:
                one = one.merged(other)
            found.add(one.shown())
            found.add(one.merged(order[-1]).shown())
            found.add(one.merged(one).shown())
            last = order[-1]
            for other in reversed(order[:-1]):
                last = other.merged(last)
            found.add(last.shown())
            found.add(order[0].merged(order[1]).merged(order[2].merged(order[0])).shown())
        self.assertEqual(len(found), 1)
        self.assertEqual([one.shown() for one in some], before)
        for one in some:
            self.assertEqual(one.merged(one).shown(), one.shown())
        return found.pop()

    def test_counters(self):
        draw = random.Random(1)
        for _ in range(60):
            some = [Counter(), Counter(), Counter()]
            total = 0
            for machine, one in zip(MACHINES, some):
                for _ in range(draw.randrange(5)):
                    number = draw.randrange(-9, 10)
                    one.add(machine, number)
                    total += number
            self.assertEqual(Counter(*self.check(some)).total(), total)

    def test_registers(self):
        draw = random.Random(2)
        for _ in range(60):
            some = [Register(draw.choice(("x", "y", 1, None)), draw.randrange(3), draw.choice("abc")) for _ in range(3)]
            value, time, machine = self.check(some)
            self.assertEqual((time, machine), max((one.time, one.machine) for one in some))

    def test_members(self):
        draw = random.Random(3)
        for _ in range(200):
            some = [Members(), Members(), Members()]
            for number in range(12):
                at = draw.randrange(3)
                if draw.random() < 0.6:
                    some[at].add(MACHINES[at], number, draw.choice("xyz"))
                elif draw.random() < 0.5:
                    some[at].discard(draw.choice("xyz"))
                else:
                    some[at] = some[at].merged(some[draw.randrange(3)])
            found = self.check(some)
            self.assertEqual(Members(*found).shown(), found)

    def test_stamps(self):
        draw = random.Random(4)
        for _ in range(60):
            some = [Stamp(tuple((machine, draw.randrange(3)) for machine in MACHINES)) for _ in range(3)]
            self.check(some)


class Counters(unittest.TestCase):
    def test_new(self):
        self.assertEqual((Counter().total(), Counter().shown()), (0, ((), ())))
        one = Counter((("b", 3), ("a", 1)), (("a", 9),))
        self.assertEqual((one.total(), one.shown()), (-5, ((("a", 1), ("b", 3)), (("a", 9),))))

    def test_add(self):
        one = Counter()
        for machine, number in (("b", 5), ("a", -2), ("b", 1), ("b", -7)):
            self.assertIsNone(one.add(machine, number))
        self.assertEqual((one.total(), one.shown()), (-3, ((("b", 6),), (("a", 2), ("b", 7)))))

    def test_merged(self):
        one = Counter((("a", 5),), (("a", 1),))
        other = Counter((("a", 3), ("b", 2)), (("a", 4),))
        self.assertEqual(one.merged(other).shown(), ((("a", 5), ("b", 2)), (("a", 4),)))
        both = one.merged(other)
        both.add("a", 1)
        self.assertEqual((one.total(), other.total(), both.total()), (4, 1, 4))

    def test_what_one_added_counts_once(self):
        one, other = Counter(), Counter()
        one.add("a", 4)
        other = other.merged(one)
        other.add("b", 2)
        one = one.merged(other).merged(other)
        self.assertEqual(one.total(), 6)

    def test_greatest(self):
        one, other = {"a": 1, "b": 7, "d": -3}, {"a": 2, "b": 6, "c": 0}
        self.assertEqual(greatest(one, other), {"a": 2, "b": 7, "c": 0, "d": -3})
        self.assertEqual((one, other), ({"a": 1, "b": 7, "d": -3}, {"a": 2, "b": 6, "c": 0}))
        self.assertEqual(greatest({}, {}), {})


class Registers(unittest.TestCase):
    def test_assign(self):
        one = Register()
        self.assertEqual(one.shown(), (None, 0, ""))
        self.assertIsNone(one.assign("b", 3, "x"))
        self.assertEqual((one.value, one.time, one.machine, one.shown()), ("x", 3, "b", ("x", 3, "b")))
        for time in (3, 2, 0, -1):
            with self.assertRaises(CheckError):
                one.assign("c", time, "y")
            self.assertEqual(one.shown(), ("x", 3, "b"))
        one.assign("a", 4, None)
        self.assertEqual(one.shown(), (None, 4, "a"))
        with self.assertRaises(CheckError):
            Register().assign("a", 0, "x")

    def test_merged(self):
        early, late, great = Register("x", 3, "z"), Register("y", 4, "a"), Register("q", 4, "b")
        for one, other, wins in ((early, late, late), (late, great, great), (early, great, great)):
            self.assertEqual(one.merged(other).shown(), wins.shown())
            self.assertEqual(other.merged(one).shown(), wins.shown())
        both = early.merged(late)
        both.assign("c", 9, "new")
        self.assertEqual((early.shown(), late.shown()), (("x", 3, "z"), ("y", 4, "a")))


class Sets(unittest.TestCase):
    def test_new(self):
        one = Members()
        self.assertEqual((one.all_members(), one.shown(), one.has("x")), ([], ((), ()), False))

    def test_add_and_discard(self):
        one = Members()
        self.assertIsNone(one.add("a", 1, "x"))
        one.add("b", 1, "x")
        one.add("a", 2, "w")
        self.assertEqual((one.all_members(), one.has("x"), one.has("y")), (["w", "x"], True, False))
        self.assertEqual(one.shown(), ((("w", (("a", 2),)), ("x", (("a", 1), ("b", 1)))), ()))
        self.assertIsNone(one.discard("x"))
        self.assertEqual((one.all_members(), one.has("x")), (["w"], False))
        self.assertEqual(one.shown(), ((("w", (("a", 2),)),), (("a", 1), ("b", 1))))
        one.discard("never")
        self.assertEqual(one.shown(), ((("w", (("a", 2),)),), (("a", 1), ("b", 1))))
        one.add("a", 3, "x")
        self.assertTrue(one.has("x"))

    def test_a_drop_that_saw_it(self):
        one = Members()
        one.add("a", 1, "x")
        other = Members(*one.shown())
        other.discard("x")
        self.assertEqual((one.merged(other).has("x"), other.merged(one).has("x"), one.has("x")), (False, False, True))

    def test_a_drop_that_did_not_see_it(self):
        one, other = Members(), Members()
        one.add("a", 1, "x")
        other = other.merged(one)
        one.add("a", 2, "x")
        other.discard("x")
        both = one.merged(other)
        self.assertEqual((both.all_members(), both.shown()), (["x"], ((("x", (("a", 2),)),), (("a", 1),))))
        other = Members()
        other.discard("x")
        self.assertTrue(other.merged(one).has("x"))

    def test_one_drops_what_another_adds_anew(self):
        one = Members()
        one.add("a", 1, "x")
        other = one.merged(Members())
        one.discard("x")
        one.add("a", 2, "x")
        self.assertTrue(one.merged(other).has("x"))
        other.discard("x")
        self.assertEqual(one.merged(other).shown(), ((("x", (("a", 2),)),), (("a", 1),)))

    def test_merged_is_another_one(self):
        one, other = Members(), Members()
        one.add("a", 1, "x")
        both = one.merged(other)
        both.discard("x")
        both.add("b", 1, "y")
        self.assertEqual((one.all_members(), other.all_members(), both.all_members()), (["x"], [], ["y"]))


class Stamps(unittest.TestCase):
    def test_tick(self):
        one = Stamp()
        two = one.tick("b")
        three = two.tick("a").tick("b")
        self.assertEqual((one.shown(), two.shown(), three.shown()), ((), (("b", 1),), (("a", 1), ("b", 2))))

    def test_counts_of_0_are_left_out(self):
        self.assertEqual(Stamp((("b", 0), ("a", 2), ("c", 0))).shown(), (("a", 2),))
        self.assertEqual(Stamp((("b", 0),)).compare(Stamp()), "same")
        self.assertEqual(Stamp((("b", 0),)).merged(Stamp((("a", 0),))).shown(), ())

    def test_compare(self):
        a, b, ab, aab = Stamp((("a", 1),)), Stamp((("b", 1),)), Stamp((("b", 1), ("a", 1))), Stamp((("a", 2), ("b", 1)))
        for one, other, told in ((a, a, "same"), (a, ab, "before"), (b, ab, "before"), (ab, aab, "before"), (a, b, "beside"),
                                 (Stamp(), a, "before"), (Stamp(), Stamp(), "same"),
                                 (Stamp((("a", 2),)), ab, "beside"), (ab, Stamp((("b", 1), ("a", 1))), "same")):
            back = {"same": "same", "before": "after", "beside": "beside"}[told]
            self.assertEqual((one.compare(other), other.compare(one)), (told, back))
            self.assertEqual((one.stands_before(other), other.stands_before(one)), (told == "before", False))

    def test_messages(self):
        sent = Stamp().tick("a")
        heard = Stamp().tick("b").merged(sent).tick("b")
        self.assertEqual(heard.shown(), (("a", 1), ("b", 2)))
        self.assertEqual((sent.compare(heard), sent.tick("a").compare(heard)), ("before", "beside"))


if __name__ == "__main__":
    unittest.main()
