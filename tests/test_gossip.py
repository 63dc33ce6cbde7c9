"""Point [14]: machines that tell each other how lately they heard of whom."""

import unittest

from shardstack.errors import MachineError
from shardstack.gossip import Crowd, View

NAMES = ("a", "b", "c", "d")


def ticked(many, name="a", names=NAMES):
    view = View(name, names)
    for _ in range(many):
        view.tick()
    return view


class Views(unittest.TestCase):
    def test_new(self):
        view = View("b", ("c", "b"))
        self.assertEqual((view.name, view.time, sorted(view.rows)), ("b", 0, ["b", "c"]))
        self.assertEqual(view.news(), (("b", 0), ("c", 0)))
        with self.assertRaises(MachineError):
            View("x", NAMES)

    def test_tick(self):
        view = ticked(3)
        self.assertEqual((view.time, view.news()), (3, (("a", 3), ("b", 0), ("c", 0), ("d", 0))))

    def test_counts_only_rise(self):
        view = ticked(2)
        self.assertIsNone(view.hear((("b", 5), ("c", 1))))
        view.tick()
        view.hear((("b", 4), ("c", 1), ("a", 1)))
        self.assertEqual(view.news(), (("a", 3), ("b", 5), ("c", 1), ("d", 0)))
        self.assertEqual(view.rows["b"], (5, 2))
        view.hear((("b", 6),))
        self.assertEqual(view.rows["b"], (6, 3))

    def test_its_own_count_goes_on_from_what_others_know(self):
        view = ticked(1)
        view.hear((("a", 9),))
        view.tick()
        self.assertEqual(view.news()[0], ("a", 10))

    def test_states(self):
        for ticks in range(20):
            expected = "alive" if ticks < 6 else "suspect" if ticks < 15 else "dead"
            self.assertEqual(ticked(ticks).state_of("b"), expected, ticks)
            self.assertEqual(ticked(ticks).state_of("a"), "alive")
        view = ticked(14)
        view.hear((("b", 1), ("c", 0)))
        view.tick()
        self.assertEqual([view.state_of(name) for name in NAMES], ["alive", "alive", "dead", "dead"])
        for _ in range(5):
            view.tick()
        self.assertEqual(view.state_of("b"), "suspect")

    def test_unknown(self):
        for name in ("x", ""):
            with self.assertRaises(MachineError):
                View("a", NAMES).state_of(name)

    def test_names_in(self):
        view = ticked(10)
        view.hear((("d", 1),))
        for _ in range(5):
            view.tick()
        view.hear((("b", 1),))
        self.assertEqual([view.names_in(state) for state in ("alive", "suspect", "dead", "other")],
                         [["a", "b", "d"], [], ["c"], []])
        view.tick()
        self.assertEqual(view.names_in("suspect"), ["d"])

    def test_who_was_unknown(self):
        view = ticked(3)
        view.hear((("x", 0), ("e", 7)))
        self.assertEqual((view.rows["x"], view.rows["e"]), ((0, 3), (7, 3)))
        self.assertEqual(view.state_of("x"), "alive")

    def test_forget_dead(self):
        view = ticked(4)
        view.hear((("b", 5), ("d", 1)))
        for _ in range(14):
            view.tick()
        self.assertEqual(view.forget_dead(), ["c"])
        view.tick()
        self.assertEqual((view.forget_dead(), view.forget_dead()), (["b", "d"], []))
        self.assertEqual(view.news(), (("a", 19),))
        with self.assertRaises(MachineError):
            view.state_of("b")
        # Old news is no news.
        view.hear((("b", 5), ("c", 0), ("d", 0)))
        self.assertEqual(view.news(), (("a", 19),))
        view.hear((("b", 6), ("c", 1)))
        self.assertEqual((view.news(), view.state_of("b")), ((("a", 19), ("b", 6), ("c", 1)), "alive"))
        for _ in range(15):
            view.tick()
        self.assertEqual(view.forget_dead(), ["b", "c"])
        view.hear((("b", 6),))
        self.assertEqual(view.names_in("alive"), ["a"])


class Crowds(unittest.TestCase):
    def told(self, crowd):
        """Return whom each machine has heard of so far, as its counts tell."""
        return {name: [one for one, count in view.news() if count > 0] for name, view in crowd.views.items()}

    def test_new(self):
        crowd = Crowd(NAMES)
        self.assertEqual((sorted(crowd.views), crowd.down), (list(NAMES), {}))
        self.assertEqual([crowd.views[name].name for name in NAMES], list(NAMES))
        self.assertEqual([crowd.partner(name) for name in NAMES], [Crowd(NAMES, 1).partner(name) for name in NAMES])
        self.assertEqual(crowd.partner("a"), "c")

    def test_whose_turn_it_is(self):
        for seed in range(7):
            crowd = Crowd(("c", "a", "d", "b"), seed)
            for number in range(8):
                others = {name: sorted(set(NAMES) - {name}) for name in NAMES}
                self.assertEqual({name: crowd.partner(name) for name in NAMES},
                                 {name: others[name][(seed + number) % 3] for name in NAMES})
                crowd.tell_round()

    def test_the_first_round_is_one_further(self):
        for seed, partner in ((0, "c"), (1, "d"), (2, "b"), (5, "b")):
            crowd = Crowd(NAMES, seed)
            for name in ("b", "c", "d"):
                crowd.set_down(name, True)
            crowd.set_down(partner, False)
            crowd.tell_round()
            self.assertEqual([one for one, count in crowd.views["a"].news() if count > 0], sorted(["a", partner]))

    def test_a_round(self):
        crowd = Crowd(("a", "b", "c"), 0)
        self.assertIsNone(crowd.tell_round())
        # a tells c, b tells c, c tells b: and each hears what that one knows by then.
        self.assertEqual(self.told(crowd), {"a": ["a", "c"], "b": ["a", "b", "c"], "c": ["a", "b", "c"]})
        self.assertEqual([view.time for view in crowd.views.values()], [1, 1, 1])
        self.assertEqual([dict(view.news())[name] for name, view in crowd.views.items()], [1, 1, 1])

    def test_alone(self):
        crowd = Crowd(("a",))
        self.assertIsNone(crowd.partner("a"))
        crowd.tell_round()
        self.assertEqual((crowd.views["a"].news(), crowd.agree_on("a")), ((("a", 1),), ["alive"]))

    def test_all_are_alive(self):
        for many in (2, 3, 5, 9):
            names = tuple("abcdefghi"[:many])
            crowd = Crowd(names, 3)
            for _ in range(60):
                crowd.tell_round()
                self.assertEqual([crowd.agree_on(name) for name in names], [["alive"]] * many)

    def test_one_that_is_down(self):
        crowd = Crowd(NAMES)
        for _ in range(10):
            crowd.tell_round()
        self.assertIsNone(crowd.set_down("c", True))
        before = crowd.views["c"].news()
        seen = []
        for _ in range(40):
            crowd.tell_round()
            if crowd.agree_on("c") not in seen:
                seen.append(crowd.agree_on("c"))
        self.assertEqual((seen[0], seen[-1]), (["alive"], ["dead"]))
        self.assertIn(["suspect"], seen)
        self.assertEqual((crowd.views["c"].news(), crowd.views["c"].time), (before, 10))
        self.assertEqual([crowd.agree_on(name) for name in "abd"], [["alive"]] * 3)
        self.assertIsNone(crowd.set_down("c", False))
        for _ in range(5):
            crowd.tell_round()
        self.assertEqual([crowd.agree_on(name) for name in NAMES], [["alive"]] * 4)

    def test_one_that_was_forgotten_comes_back(self):
        crowd = Crowd(NAMES)
        for _ in range(10):
            crowd.tell_round()
        crowd.set_down("c", True)
        for _ in range(30):
            crowd.tell_round()
        self.assertEqual([crowd.views[name].forget_dead() for name in "abd"], [["c"]] * 3)
        self.assertEqual(crowd.agree_on("c"), [])
        for _ in range(5):
            crowd.tell_round()
        self.assertEqual(crowd.agree_on("c"), [])
        crowd.set_down("c", False)
        for _ in range(5):
            crowd.tell_round()
        self.assertEqual(crowd.agree_on("c"), ["alive"])

    def test_states_are_told_once_and_in_order(self):
        crowd = Crowd(("a", "b", "c"))
        for view, ticks in (("a", 0), ("b", 20), ("c", 7)):
            for _ in range(ticks):
                crowd.views[view].tick()
        crowd.set_down("a", False)
        self.assertEqual(crowd.agree_on("a"), ["alive", "dead", "suspect"])
        crowd.set_down("c", True)
        self.assertEqual(crowd.agree_on("a"), ["alive", "dead"])
        crowd.set_down("a", True)
        self.assertEqual(crowd.agree_on("a"), ["dead"])
        self.assertEqual(crowd.agree_on("x"), [])

    def test_unknown(self):
        crowd = Crowd(NAMES)
        for down in (True, False):
            with self.assertRaises(MachineError):
                crowd.set_down("x", down)
        self.assertEqual(crowd.down, {})


if __name__ == "__main__":
    unittest.main()
