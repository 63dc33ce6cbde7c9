"""Point [23]: which copies stay, where copies go that lack, what lacks, and what goes from plan to plan."""

import random
import unittest

from shardstack.errors import PlaceError
from shardstack.placing import Part, Place, Planner, moves_between


def machines(*rows):
    return [Place(*row) for row in rows]


def parts(*rows):
    return [Part(*row) for row in rows]


class Wrong(unittest.TestCase):
    def test_machines(self):
        for name, zone, room in (("", "z", 1), ("a", "z", -1), ("", "z", -1), ("a", "z", -100)):
            with self.assertRaises(PlaceError):
                Place(name, zone, room)
        self.assertEqual(Place("a", "", 0).name, "a")

    def test_parts(self):
        for name, weight, copies in (("", 1, 1), ("p", 0, 1), ("p", -1, 1), ("p", 1, 0), ("p", 1, -1), ("p", 1, 10),
                                     ("", 0, 0), ("p", 1, 100)):
            with self.assertRaises(PlaceError):
                Part(name, weight, copies)
        for copies in (1, 9):
            part = Part("p", 1, copies)
            self.assertEqual((part.name, part.copies), ("p", copies))

    def test_names_twice(self):
        some, others = machines(("a", "z", 1), ("b", "z", 1)), parts(("p", 1, 1), ("q", 1, 1))
        for one, other in ((some + machines(("a", "y", 5)), others), (some, others + parts(("p", 2, 2))),
                           (some + some, others), (some, others + others)):
            with self.assertRaises(PlaceError):
                Planner(one, other)
        planner = Planner(some, others)
        self.assertEqual(planner.parts, others)
        self.assertEqual(planner.left, {"a": 1, "b": 1})
        self.assertEqual(Planner([], []).plan({}), ({}, {}))
        Planner(machines(("p", "z", 1)), parts(("p", 1, 1)))


class Plans(unittest.TestCase):
    def test_without_an_old_one(self):
        planner = Planner(machines(("c", "z1", 10), ("a", "z1", 10), ("b", "z2", 9), ("d", "z3", 3)),
                          parts(("p", 2, 2), ("q", 4, 3), ("r", 1, 1)))
        # p: a (10, the first by name), b; q: c (10), b (7), none in z3 with room; r: a (8).
        self.assertEqual(planner.plan({}), ({"p": ("a", "b"), "q": ("c", "b"), "r": ("a",)}, {"q": 1}))
        self.assertEqual(planner.left, {"a": 7, "b": 3, "c": 6, "d": 3})

    def test_kinds(self):
        found = Planner(machines(("a", "z", 5)), parts(("p", 1, 1))).plan({})
        self.assertIs(type(found), tuple)
        self.assertEqual([type(one) for one in found], [dict, dict])
        self.assertIs(type(found[0]["p"]), tuple)

    def test_in_the_order_of_parts(self):
        some = machines(("a", "z", 3))
        self.assertEqual(Planner(some, parts(("q", 3, 1), ("p", 1, 1))).plan({}), ({"q": ("a",), "p": ()}, {"p": 1}))
        self.assertEqual(Planner(some, parts(("p", 1, 1), ("q", 3, 1))).plan({}), ({"p": ("a",), "q": ()}, {"q": 1}))

    def test_a_part_that_finds_no_room_is_there(self):
        self.assertEqual(Planner([], parts(("p", 1, 2), ("q", 1, 9))).plan({}), ({"p": (), "q": ()}, {"p": 2, "q": 9}))

    def test_room_just_enough(self):
        for room, rows, lacks in ((3, ("a",), {}), (2, (), {"p": 1})):
            self.assertEqual(Planner(machines(("a", "z", room)), parts(("p", 3, 1))).plan({}), ({"p": rows}, lacks))
            self.assertEqual(Planner(machines(("a", "z", room)), parts(("p", 3, 1))).plan({"p": ("a",)}),
                             ({"p": rows}, lacks))

    def test_more_copies_than_zones(self):
        planner = Planner(machines(("a", "z1", 9), ("b", "z2", 9), ("c", "z2", 9)), parts(("p", 1, 5)))
        self.assertEqual(planner.plan({}), ({"p": ("a", "b")}, {"p": 3}))

    def test_copies_stay(self):
        some = machines(("a", "z1", 5), ("b", "z2", 50), ("c", "z3", 50), ("d", "z2", 5))
        planner = Planner(some, parts(("p", 1, 3)))
        # In the order of the old plan, before what comes to it.
        self.assertEqual(planner.plan({"p": ("d", "a")}), ({"p": ("d", "a", "c")}, {}))
        self.assertEqual(planner.plan({"p": ("a", "d", "c")}), ({"p": ("a", "d", "c")}, {}))
        # Another one in the same zone, the same one twice, and one that is gone do not stay.
        self.assertEqual(planner.plan({"p": ("d", "b", "a")}), ({"p": ("d", "a", "c")}, {}))
        self.assertEqual(planner.plan({"p": ("a", "a")}), ({"p": ("a", "b", "c")}, {}))
        self.assertEqual(planner.plan({"p": ("x", "d", "y"), "gone": ("a", "b")}), ({"p": ("d", "c", "a")}, {}))

    def test_no_more_copies_stay_than_wanted(self):
        planner = Planner(machines(("a", "z1", 5), ("b", "z2", 5), ("c", "z3", 5)), parts(("p", 1, 2)))
        self.assertEqual(planner.plan({"p": ("c", "b", "a")}), ({"p": ("c", "b")}, {}))
        self.assertEqual(planner.left, {"a": 5, "b": 4, "c": 4})

    def test_staying_goes_first(self):
        # q stays where it is, although p comes first and would go there.
        planner = Planner(machines(("a", "z1", 5), ("b", "z2", 3)), parts(("p", 2, 1), ("q", 4, 1)))
        self.assertEqual(planner.plan({"q": ("a",)}), ({"p": ("b",), "q": ("a",)}, {}))
        # Of what stays, an earlier part takes the room.
        planner = Planner(machines(("a", "z1", 5), ("b", "z2", 3)), parts(("p", 3, 1), ("q", 3, 1)))
        self.assertEqual(planner.plan({"p": ("a",), "q": ("a",)}), ({"p": ("a",), "q": ("b",)}, {}))

    def test_most_room_left(self):
        planner = Planner(machines(("b", "z2", 7), ("a", "z1", 6), ("c", "z3", 7)), parts(*[(f"p{at}", 1, 1) for at in range(6)]))
        self.assertEqual([planner.plan({})[0][f"p{at}"] for at in range(6)],
                         [("b",), ("c",), ("a",), ("b",), ("c",), ("a",)])
        self.assertEqual(planner.left, {"a": 4, "b": 5, "c": 5})

    def test_again_and_again(self):
        planner = Planner(machines(("a", "z1", 4), ("b", "z2", 4)), parts(("p", 3, 2)))
        for _ in range(3):
            self.assertEqual(planner.plan({}), ({"p": ("a", "b")}, {}))
            self.assertEqual(planner.left, {"a": 1, "b": 1})

    def test_the_old_one_does_not_change(self):
        old = {"p": ("a", "x"), "gone": ("a",)}
        found, _ = Planner(machines(("a", "z1", 4), ("b", "z2", 4)), parts(("p", 3, 2))).plan(old)
        self.assertEqual(old, {"p": ("a", "x"), "gone": ("a",)})
        self.assertIsNot(found, old)

    def test_may_hold(self):
        part = Part("p", 3, 2)
        planner = Planner(machines(("a", "z1", 3), ("b", "z1", 2), ("c", "z2", 30)), [part])
        for name, rows, answer in (("a", (), True), ("b", (), False), ("c", (), True), ("x", (), False),
                                   ("a", ("b",), False), ("a", ("c",), True), ("c", ("a", "b"), True),
                                   ("c", ("c",), False), ("a", ("x",), True), ("c", ["a", "b"], True)):
            self.assertIs(planner.may_hold(part, name, rows), answer)
        self.assertEqual(planner.left, {"a": 3, "b": 2, "c": 30})
        planner.plan({})
        self.assertIs(planner.may_hold(part, "a", ()), False)

    def test_best_for(self):
        part = Part("p", 3, 2)
        planner = Planner(machines(("d", "z1", 9), ("b", "z2", 9), ("a", "z3", 8), ("c", "z4", 2)), [part])
        self.assertEqual(planner.best_for(part, ()), "b")
        self.assertEqual(planner.best_for(part, ("b",)), "d")
        self.assertEqual(planner.best_for(part, ["b", "d"]), "a")
        self.assertIsNone(planner.best_for(part, ("b", "d", "a")))
        self.assertIsNone(Planner([], [part]).best_for(part, ()))
        self.assertEqual(planner.left, {"a": 8, "b": 9, "c": 2, "d": 9})


class Drawn(unittest.TestCase):
    """Against the words of the class, over drawn machines, parts and old plans."""

    def expected(self, some, others, old):
        zones, left = {one[0]: one[1] for one in some}, {one[0]: one[2] for one in some}
        plan = {}
        for name, weight, copies in others:
            rows = []
            for one in old.get(name, ()):
                fits = one in left and left[one] >= weight and zones[one] not in [zones[other] for other in rows]
                if fits and len(rows) < copies:
                    rows.append(one)
                    left[one] -= weight
            plan[name] = rows
        lacks = {}
        for name, weight, copies in others:
            for _ in range(copies - len(plan[name])):
                free = [(-left[one], one) for one in left
                        if left[one] >= weight and zones[one] not in [zones[other] for other in plan[name]]]
                if not free:
                    break
                plan[name].append(min(free)[1])
                left[plan[name][-1]] -= weight
            if len(plan[name]) < copies:
                lacks[name] = copies - len(plan[name])
        return {name: tuple(rows) for name, rows in plan.items()}, lacks, left

    def test_drawn(self):
        draw = random.Random(1)
        lacked = 0
        for _ in range(400):
            old = {}
            for _ in range(3):
                some = [(name, draw.choice(("z1", "z2", "z3", "z4")), draw.randrange(12))
                        for name in draw.sample("abcdefgh", draw.randrange(9))]
                others = [(name, draw.randint(1, 4), draw.choice((1, 2, 3, 9))) for name in draw.sample("pqrst", draw.randrange(6))]
                planner = Planner(machines(*some), parts(*others))
                plan, lacks, left = self.expected(some, others, old)
                self.assertEqual(planner.plan(old), (plan, lacks))
                self.assertEqual(planner.left, left)
                lacked += len(lacks)
                old = plan
        self.assertGreater(lacked, 100)


class Moves(unittest.TestCase):
    def test_moves(self):
        old = {"p": ("a", "b", "c"), "q": ("a",), "gone": ("b", "a"), "r": ("c", "d"), "same": ("a", "b"), "e": ()}
        new = {"p": ("d", "b", "e"), "q": ("a", "c", "b"), "new": ("c", "a"), "r": ("e", "f", "c"), "same": ("b", "a"),
               "e": (), "f": ()}
        self.assertEqual(moves_between(old, new), (
            ("gone", "b", None), ("gone", "a", None), ("new", None, "c"), ("new", None, "a"),
            ("p", "a", "d"), ("p", "c", "e"), ("q", None, "c"), ("q", None, "b"), ("r", "d", "e"), ("r", None, "f")))

    def test_more_leave_than_come(self):
        self.assertEqual(moves_between({"p": ("a", "b", "c")}, {"p": ("d",)}),
                         (("p", "a", "d"), ("p", "b", None), ("p", "c", None)))

    def test_nothing(self):
        self.assertEqual(moves_between({}, {}), ())
        self.assertEqual(moves_between({"p": ("a", "b")}, {"p": ("a", "b")}), ())
        self.assertEqual(moves_between({"p": ()}, {"q": ()}), ())

    def test_plans_do_not_change(self):
        old, new = {"p": ("a",)}, {"q": ("b",)}
        moves_between(old, new)
        self.assertEqual((old, new), ({"p": ("a",)}, {"q": ("b",)}))


if __name__ == "__main__":
    unittest.main()
