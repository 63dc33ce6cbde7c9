"""Point [19]: what surely is not there, how often at most, and what comes most often."""

import random
import unittest

from shardstack.errors import TableError, WireError
from shardstack.filters import Counts, Filter, Tops
from shardstack.wire import pack

VALUES = ("", "a", "b", "key 7", "~", "\n", 0, 1, -1, 300, 10 ** 20, None, True, False, (), ("a", 1), ((None,), "x", -5))
UNSENT = ("%", "\t", ("a", "%"), 1.5, [1], {"a": 1})


def place(way, value, size):
    """Return a value's place as points [14] and [19] tell it."""
    number = 17
    for byte in pack((way, value)):
        number = (257 * number + byte + 1) % 2147483647
    return number % size


class Sizes(unittest.TestCase):
    def test_sizes(self):
        for made in (Filter, Counts):
            for size in (1, 2, 4095, 4096):
                for ways in (1, 2, 7, 8):
                    made(size, ways).add("a")
            for size, ways in ((0, 1), (-1, 1), (4097, 1), (1, 0), (1, -1), (1, 9), (0, 0), (4097, 9), (4096, 0)):
                with self.assertRaises(TableError):
                    made(size, ways)


class Places(unittest.TestCase):
    def test_by_hand(self):
        # The row (0, "a") is 7, 2, 4, 0, 6, 1 and the place of "a", 65.
        number = 17
        for byte in (7, 2, 4, 0, 6, 1, 65):
            number = (number * 257 + byte + 1) % 2147483647
        one = Filter(4096, 1)
        one.add("a")
        self.assertEqual(one.shown(), (4096, 1, (number % 4096,)))
        # The row (0, None) is 7, 2, 4, 0, 1; the row (1, None) is 7, 2, 4, 1, 1.
        first = second = (17 * 257 + 8) * 257 + 3
        for byte in (4, 0, 1):
            first = (first * 257 + byte + 1) % 2147483647
        for byte in (4, 1, 1):
            second = (second * 257 + byte + 1) % 2147483647
        one = Filter(1000, 2)
        one.add(None)
        self.assertEqual(one.shown(), (1000, 2, tuple(sorted((first % 1000, second % 1000)))))
        counts = Counts(1000, 2)
        counts.add(None)
        self.assertEqual(counts.rows, {(0, first % 1000): 1, (1, second % 1000): 1})

    def test_each_kind(self):
        for value in VALUES:
            for size in (1, 2, 64, 97, 4096):
                for ways in (1, 3, 8):
                    places = [place(way, value, size) for way in range(ways)]
                    one = Filter(size, ways)
                    self.assertIsNone(one.add(value))
                    self.assertEqual(one.shown(), (size, ways, tuple(sorted(set(places)))))
                    counts = Counts(size, ways)
                    self.assertIsNone(counts.add(value, 3))
                    self.assertEqual(counts.rows, {(way, at): 3 for way, at in enumerate(places)})


class Filters(unittest.TestCase):
    def test_new(self):
        one = Filter(64, 3)
        self.assertEqual((one.size, one.ways), (64, 3))
        self.assertEqual(one.shown(), (64, 3, ()))
        for value in VALUES:
            self.assertIs(one.may_have(value), False)

    def test_what_was_added_may_be_there(self):
        draw = random.Random(1)
        for size, ways in ((1, 1), (8, 2), (64, 3), (512, 8), (4096, 4)):
            one = Filter(size, ways)
            places = set()
            for _ in range(40):
                value = draw.choice((f"k{draw.randrange(1000)}", draw.randrange(1000), (draw.randrange(9), "x")))
                one.add(value)
                places |= {place(way, value, size) for way in range(ways)}
                self.assertIs(one.may_have(value), True)
                self.assertEqual(one.shown(), (size, ways, tuple(sorted(places))))
            for number in range(300):
                value = f"other{number}"
                self.assertIs(one.may_have(value), all(place(way, value, size) in places for way in range(ways)))

    def test_most_others_are_told_not_to_be(self):
        one = Filter(64, 3)
        for number in range(8):
            one.add(f"k{number}")
        self.assertLess(sum(one.may_have(f"x{number}") for number in range(1000)), 120)

    def test_joined(self):
        one, other = Filter(97, 2), Filter(97, 2)
        for value in VALUES[:6]:
            one.add(value)
        for value in VALUES[4:]:
            other.add(value)
        before = one.shown(), other.shown()
        both = one.joined(other)
        self.assertEqual((one.shown(), other.shown()), before)
        self.assertEqual(both.shown(), (97, 2, tuple(sorted(set(before[0][2]) | set(before[1][2])))))
        self.assertEqual(other.joined(one).shown(), both.shown())
        self.assertEqual(one.joined(one).shown(), one.shown())
        self.assertTrue(all(both.may_have(value) for value in VALUES))
        both.add("new")
        both.add("newer")
        one.add("more")
        self.assertEqual(other.shown(), before[1])
        self.assertNotEqual(one.shown(), both.shown())
        for other in (Filter(96, 2), Filter(97, 3), Filter(2, 97 % 8)):
            with self.assertRaises(TableError):
                one.joined(other)

    def test_what_cannot_be_sent_changes_nothing(self):
        one, counts = Filter(64, 3), Counts(64, 3)
        for value in VALUES:
            one.add(value)
            counts.add(value)
        before = one.shown(), dict(counts.rows), counts.whole
        for value in UNSENT:
            for work in (one.add, one.may_have, counts.add, counts.at_most):
                with self.assertRaises(WireError):
                    work(value)
            self.assertEqual((one.shown(), counts.rows, counts.whole), before)


class Counting(unittest.TestCase):
    def test_new(self):
        counts = Counts(64, 3)
        self.assertEqual((counts.rows, counts.whole), ({}, 0))
        self.assertEqual(counts.at_most("a"), 0)

    def test_never_too_small(self):
        draw = random.Random(2)
        for size, ways in ((1, 1), (4, 2), (64, 3), (4096, 8)):
            counts = Counts(size, ways)
            true = {}
            rows = {}
            for _ in range(80):
                value = draw.choice((f"k{draw.randrange(30)}", draw.randrange(30), None))
                many = draw.choice((1, 1, 2, 50))
                if many == 1 and draw.random() < 0.5:
                    counts.add(value)
                else:
                    counts.add(value, many)
                true[value] = true.get(value, 0) + many
                for way in range(ways):
                    at = (way, place(way, value, size))
                    rows[at] = rows.get(at, 0) + many
            self.assertEqual(counts.rows, rows)
            self.assertEqual(counts.whole, sum(true.values()))
            for value in list(true) + ["never", 10 ** 9, True, ()]:
                least = min(rows.get((way, place(way, value, size)), 0) for way in range(ways))
                self.assertEqual(counts.at_most(value), least)
                self.assertGreaterEqual(counts.at_most(value), true.get(value, 0))
        self.assertEqual(counts.at_most("never"), 0)

    def test_many(self):
        counts = Counts(64, 3)
        counts.add("a", 2)
        before = dict(counts.rows)
        for many in (0, -1, -100):
            with self.assertRaises(TableError):
                counts.add("a", many)
            with self.assertRaises(TableError):
                counts.add("b", many)
        self.assertEqual((counts.rows, counts.whole), (before, 2))

    def test_joined(self):
        one, other = Counts(16, 2), Counts(16, 2)
        for at, value in enumerate(VALUES):
            one.add(value, at + 1)
            if at > 5:
                other.add(value)
        rows = dict(one.rows), dict(other.rows)
        both = one.joined(other)
        self.assertEqual((one.rows, other.rows), rows)
        self.assertEqual(both.whole, one.whole + other.whole)
        self.assertEqual(both.rows, {at: rows[0].get(at, 0) + rows[1].get(at, 0) for at in {**rows[0], **rows[1]}})
        self.assertEqual(other.joined(one).rows, both.rows)
        both.add("new")
        self.assertEqual((one.rows, other.rows), rows)
        self.assertEqual(one.joined(one).whole, 2 * one.whole)
        self.assertEqual(Counts(16, 2).joined(Counts(16, 2)).rows, {})
        for other in (Counts(15, 2), Counts(16, 3)):
            with self.assertRaises(TableError):
                one.joined(other)


class Most(unittest.TestCase):
    def test_new(self):
        for many in (1, 2, 100):
            tops = Tops(many)
            self.assertEqual((tops.many, tops.missed, tops.top()), (many, 0, ()))
        for many in (0, -1):
            with self.assertRaises(TableError):
                Tops(many)

    def test_one_place(self):
        tops = Tops(1)
        told = []
        for value in ("a", "a", "b", "b", "b", "a"):
            self.assertIsNone(tops.add(value))
            told.append((tops.top(), tops.missed))
        self.assertEqual(told, [((("a", 1),), 0), ((("a", 2),), 0), ((("a", 1),), 1), ((), 2), ((("b", 1),), 2), ((), 3)])

    def test_two_places(self):
        tops = Tops(2)
        told = []
        for value in ("b", "a", "b", "c", "c", "c"):
            tops.add(value)
            told.append((tops.top(), tops.missed))
        self.assertEqual(told, [((("b", 1),), 0), ((("a", 1), ("b", 1)), 0), ((("b", 2), ("a", 1)), 0),
                                ((("b", 1),), 1), ((("b", 1), ("c", 1)), 1), ((("c", 2), ("b", 1)), 1)])

    def test_order(self):
        tops = Tops(5)
        for value in "cabacbdde":
            tops.add(value)
        self.assertEqual(tops.top(), (("a", 2), ("b", 2), ("c", 2), ("d", 2), ("e", 1)))

    def test_by_words(self):
        draw = random.Random(3)
        for many in (1, 2, 3, 7):
            for _ in range(30):
                tops = Tops(many)
                counts, true, missed = {}, {}, 0
                for at in range(draw.randrange(120)):
                    value = "v" + str(min(draw.randrange(12), draw.randrange(12)))
                    true[value] = true.get(value, 0) + 1
                    if value in counts or len(counts) < many:
                        counts[value] = counts.get(value, 0) + 1
                    else:
                        missed += 1
                        counts = {one: count - 1 for one, count in counts.items() if count > 1}
                    tops.add(value)
                    self.assertEqual(tops.top(), tuple(sorted(counts.items(), key=lambda row: (-row[1], row[0]))))
                    self.assertEqual(tops.missed, missed)
                self.assertLessEqual(missed * (many + 1), sum(true.values()))
                for value, count in true.items():
                    self.assertTrue(count - missed <= counts.get(value, 0) <= count)


if __name__ == "__main__":
    unittest.main()
