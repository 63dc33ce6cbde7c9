"""Nets: messages on their way, cut links, what is lost, and how often something was sent."""

import unittest

from shardstack.errors import MachineError, WireError
from shardstack.net import Net
from shardstack.wire import pack


def filled(many):
    """Return a net with messages 0, 1, 2, .. from a to b."""
    net = Net()
    for number in range(many):
        net.send("a", "b", number)
    return net


def arrive(net):
    """Return what arrives, in order."""
    return [net.take(0) for _ in range(len(net.messages))]


class Messages(unittest.TestCase):
    def test_new(self):
        net = Net()
        self.assertEqual((net.messages, net.parts, net.sent, net.lost), ([], {}, 0, 0))

    def test_as_they_were_sent_and_in_order(self):
        net = Net()
        values = [None, True, ("log", ("vote", 1, "a", False)), -5, "", ((),), 10 ** 50]
        for value in values:
            self.assertIsNone(net.send("a", "b", value))
        net.send("b", "a", "back")
        self.assertEqual(net.messages[2], ("a", "b", pack(values[2])))
        self.assertEqual((net.sent, net.lost, len(net.messages)), (8, 0, 8))
        self.assertEqual(arrive(net), [("a", "b", value) for value in values] + [("b", "a", "back")])
        self.assertEqual((net.sent, net.lost, net.messages), (8, 0, []))

    def test_take(self):
        net = filled(4)
        self.assertEqual(net.take(2), ("a", "b", 2))
        self.assertEqual(net.take(2), ("a", "b", 3))
        self.assertEqual(arrive(net), [("a", "b", 0), ("a", "b", 1)])

    def test_drop(self):
        net = filled(3)
        self.assertIsNone(net.drop(1))
        self.assertEqual((net.sent, net.lost), (3, 1))
        self.assertEqual(arrive(net), [("a", "b", 0), ("a", "b", 2)])

    def test_repeat(self):
        net = filled(3)
        self.assertIsNone(net.repeat(1))
        self.assertEqual((net.lost, len(net.messages)), (0, 4))
        self.assertEqual([value for _, _, value in arrive(net)], [0, 1, 2, 1])

    def test_places_that_are_not_there(self):
        for net in (filled(0), filled(3)):
            many = len(net.messages)
            for place in (-1, -2, many, many + 1, 99):
                for work in (net.take, net.drop, net.repeat):
                    with self.assertRaises(MachineError):
                        work(place)
            self.assertEqual((len(net.messages), net.sent, net.lost), (many, many, 0))

    def test_values_that_cannot_be_sent(self):
        net = filled(1)
        net.cut(("z",), 1)
        for target in ("b", "z"):
            for value in ("%", [1], {"a": 1}, ("a", ("b", 1.5)), b"a"):
                with self.assertRaises(WireError):
                    net.send("a", target, value)
        self.assertEqual((len(net.messages), net.sent, net.lost), (1, 1, 0))

    def test_bytes_that_are_no_value(self):
        net = filled(1)
        net.messages.append(("a", "b", (0,)))
        with self.assertRaises(WireError):
            net.take(1)
        self.assertEqual(len(net.messages), 2)

    def test_forget(self):
        net = filled(2)
        net.send("b", "a", "stays")
        net.send("c", "b", "goes")
        self.assertIsNone(net.forget("b"))
        self.assertEqual((net.sent, net.lost), (4, 3))
        self.assertEqual(arrive(net), [("b", "a", "stays")])
        net.forget("nobody")
        self.assertEqual(net.lost, 3)


class Parts(unittest.TestCase):
    def test_several_parts(self):
        net = Net()
        self.assertIsNone(net.cut(("a", "b"), 1))
        net.cut(("c",), 2)
        told = {("a", "b"): False, ("a", "c"): True, ("a", "d"): True, ("c", "d"): True, ("d", "e"): False,
                ("a", "a"): False, ("c", "b"): True}
        for (one, other), cut in told.items():
            self.assertEqual(net.is_cut(one, other), cut)
            self.assertEqual(net.is_cut(other, one), cut)
        net.cut(("a",), 2)
        self.assertEqual((net.is_cut("a", "b"), net.is_cut("a", "c")), (True, False))
        net.cut(("b",), 0)
        self.assertFalse(net.is_cut("b", "d"))
        self.assertIsNone(net.heal())
        for one, other in told:
            self.assertFalse(net.is_cut(one, other))

    def test_over_a_cut_link(self):
        net = Net()
        net.send("a", "b", "before")
        net.cut(("b",), 1)
        net.send("a", "b", "lost")
        net.send("b", "a", "lost too")
        net.send("a", "c", "fine")
        self.assertEqual((net.sent, net.lost, len(net.messages)), (4, 2, 2))
        net.heal()
        net.send("a", "b", "after")
        self.assertEqual([value for _, _, value in arrive(net)], ["before", "fine", "after"])
        self.assertEqual((net.sent, net.lost), (5, 2))

    def test_lost_in_every_case(self):
        net = filled(5)
        net.cut(("b",), 1)
        net.send("a", "b", 5)
        net.heal()
        net.drop(0)
        net.repeat(0)
        net.take(0)
        net.forget("b")
        self.assertEqual((net.sent, net.lost, net.messages), (6, 6, []))


if __name__ == "__main__":
    unittest.main()
