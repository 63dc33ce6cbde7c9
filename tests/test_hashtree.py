"""Point [14]: tables compared by few hashes."""

import random
import unittest

from shardstack.errors import CheckError, WireError
from shardstack.hashtree import HashTree, bring_together, differing_keys, differing_ways, hash_of, part_of
from shardstack.wire import pack


def by_words(value):
    """Return the hash of a value as point [14] tells it."""
    number = 17
    for byte in pack(value):
        number = (257 * number + byte + 1) % 2147483647
    return number


def table_of(many, salt=0):
    return {f"key{number}": number * 7 + salt for number in range(many)}


def shown(tree):
    return tree.levels, tree.rows, tree.hashes


class Hashes(unittest.TestCase):
    def test_by_hand(self):
        # None is the byte 1; the text "a" is 6, 1, and the place of "a", 65.
        self.assertEqual(hash_of(None), 257 * 17 + 2)
        self.assertEqual(hash_of("a"), ((17 * 257 + 7) * 257 + 2) * 257 + 66)

    def test_by_words(self):
        for value in (0, -1, True, "", "abc" * 40, (1, (None, "x")), tuple(range(300)), 10 ** 40):
            self.assertEqual(hash_of(value), by_words(value))
            self.assertIn(hash_of(value), range(2147483647))

    def test_different_values(self):
        values = [None, True, False, 0, 1, -1, "", "0", "1", (), (0,), ("0",), (0, 0), ((0,), 0)] + list(range(2, 500))
        self.assertEqual(len({hash_of(value) for value in values}), len(values))

    def test_what_cannot_be_sent(self):
        for value in ("%", [], ("a", {}), 1.5):
            with self.assertRaises(WireError):
                hash_of(value)
        with self.assertRaises(WireError):
            part_of("%", 0)

    def test_parts(self):
        for level in range(6):
            seen = set()
            for number in range(60):
                key = f"k{number}"
                self.assertEqual(part_of(key, level), by_words((level, key)) % 4)
                seen.add(part_of(key, level))
            self.assertEqual(seen, {0, 1, 2, 3})


class Trees(unittest.TestCase):
    def test_ways(self):
        for levels in range(7):
            tree = HashTree({}, levels)
            for key in ("a", "b", "key"):
                self.assertEqual(tree.way_of(key), tuple(part_of(key, level) for level in range(levels)))
        self.assertEqual(HashTree({}).levels, 3)

    def test_levels(self):
        for levels in (-1, 7, 100):
            with self.assertRaises(CheckError):
                HashTree({}, levels)
        for levels in (0, 6):
            self.assertEqual(HashTree({"a": 1}, levels).levels, levels)

    def test_values_are_not_none(self):
        with self.assertRaises(CheckError):
            HashTree({"a": 1, "b": None})
        self.assertNotEqual(HashTree({"a": False}).root(), HashTree({"a": 0}).root())

    def test_what_cannot_be_sent(self):
        for table in ({"%": 1}, {"a": "%"}):
            for levels in (0, 2):
                with self.assertRaises(WireError):
                    HashTree(table, levels)
        tree = HashTree({"a": 1})
        before = shown(HashTree({"a": 1}))
        for key, value in (("%", 1), ("b", "%"), ("a", []), ("%", None)):
            with self.assertRaises(WireError):
                tree.set_row(key, value)
            self.assertEqual(shown(tree), before)

    def test_no_levels(self):
        tree = HashTree({"b": 2, "a": 1}, 0)
        self.assertEqual((tree.rows, tree.hashes), ({(): {"a": 1, "b": 2}}, {(): by_words((("a", 1), ("b", 2)))}))
        self.assertEqual(tree.root(), by_words((("a", 1), ("b", 2))))
        self.assertEqual(HashTree({}, 0).root(), by_words(()))

    def test_hashes_by_words(self):
        table = table_of(50)
        tree = HashTree(table, 2)

        def reckoned(way):
            if len(way) == 2:
                return by_words(tuple(sorted((key, value) for key, value in table.items() if tree.way_of(key) == way)))
            return by_words(tuple(reckoned(way + (part,)) for part in range(4)))

        ways = [()] + [(one,) for one in range(4)] + [(one, two) for one in range(4) for two in range(4)]
        self.assertEqual(tree.hashes, {way: reckoned(way) for way in ways})
        self.assertEqual(tree.root(), reckoned(()))
        self.assertEqual({key: value for rows in tree.rows.values() for key, value in rows.items()}, table)
        for way, rows in tree.rows.items():
            self.assertEqual({tree.way_of(key) for key in rows}, {way})

    def test_the_order_of_keys_does_not_matter(self):
        table = table_of(30)
        other = dict(reversed(list(table.items())))
        self.assertEqual(shown(HashTree(table)), shown(HashTree(other)))

    def test_the_table_is_not_kept(self):
        table = {"a": 1}
        tree = HashTree(table)
        table["a"] = 2
        self.assertEqual(shown(tree), shown(HashTree({"a": 1})))

    def test_rows_set_and_dropped(self):
        draw = random.Random(5)
        for levels in (0, 1, 3, 6):
            table = table_of(20)
            tree = HashTree(table, levels)
            for number in range(60):
                key = f"key{draw.randrange(30)}"
                value = draw.choice((None, number, "text", True, (1, None)))
                self.assertIsNone(tree.set_row(key, value))
                table[key] = value
                if value is None:
                    del table[key]
                if number % 10 == 9 or levels < 4:
                    self.assertEqual(shown(tree), shown(HashTree(table, levels)))
            for key in list(table):
                tree.set_row(key, None)
            self.assertEqual(shown(tree), shown(HashTree({}, levels)))

    def test_one_that_is_not_there_is_dropped(self):
        tree = HashTree({"a": 1})
        tree.set_row("b", None)
        self.assertEqual(shown(tree), shown(HashTree({"a": 1})))


class Differences(unittest.TestCase):
    def test_equal_ones(self):
        for levels in range(7):
            self.assertEqual(differing_ways(HashTree(table_of(40), levels), HashTree(table_of(40), levels)), ([], 1))
        self.assertEqual(differing_keys(HashTree(table_of(40)), HashTree(table_of(40))), [])

    def test_one_key(self):
        for levels in range(7):
            one, other = HashTree(table_of(40), levels), HashTree(table_of(40), levels)
            other.set_row("key7", "new")
            self.assertEqual(differing_ways(one, other), ([one.way_of("key7")], 1 + 4 * levels))
            self.assertEqual(differing_keys(one, other), ["key7"])

    def test_as_the_tables_tell(self):
        draw = random.Random(9)
        for _ in range(40):
            levels = draw.randrange(5)
            tables = [{f"k{draw.randrange(40)}": draw.choice((1, True, 0, "x")) for _ in range(30)} for _ in range(2)]
            if draw.random() < 0.5:
                tables[1] = dict(tables[0], **{f"k{draw.randrange(50)}": draw.randrange(3) for _ in range(2)})
            one, other = [HashTree(table, levels) for table in tables]
            keys = [key for key in sorted(set(tables[0]) | set(tables[1]))
                    if pack(tables[0].get(key)) != pack(tables[1].get(key))]
            self.assertEqual(differing_keys(one, other), keys)
            ways, many = differing_ways(one, other)
            self.assertEqual(list(ways), sorted({one.way_of(key) for key in keys}))
            # The root, and four parts of each way that differs before the last level.
            self.assertEqual(many, 1 + 4 * len({one.way_of(key)[:level] for key in keys for level in range(levels)}))
            before = shown(one)
            self.assertEqual(bring_together(one, other), len(keys))
            self.assertEqual(shown(other), before)
            self.assertEqual((shown(one), differing_keys(one, other)), (before, []))
            self.assertEqual(bring_together(one, other), 0)

    def test_rows_that_only_the_second_has_go(self):
        one, other = HashTree({"a": 1}), HashTree({"b": 2, "a": 1, "c": 3})
        self.assertEqual(differing_keys(one, other), ["b", "c"])
        self.assertEqual(bring_together(one, other), 2)
        self.assertEqual(shown(other), shown(HashTree({"a": 1})))

    def test_different_levels(self):
        for compare in (differing_ways, differing_keys, bring_together):
            one, other = HashTree({"a": 1}, 2), HashTree({"a": 2}, 3)
            with self.assertRaises(CheckError):
                compare(one, other)
            self.assertEqual(shown(other), shown(HashTree({"a": 2}, 3)))


if __name__ == "__main__":
    unittest.main()
