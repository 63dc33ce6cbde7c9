"""Point [21]: changes at times, deals that see a table as it was, conflicts, forgetting, changes."""

import random
import unittest

from shardstack.errors import TableError
from shardstack.versions import Dealing, Versions, is_within

KEYS = ("a", "b", "c", "d", "e", "ff")
NO_KEYS = ("", None, 5, ("a",), True, False)


def state(versions):
    """Return all that versions hold."""
    return ({key: list(rows) for key, rows in versions.rows.items()}, versions.time, versions.trimmed,
            dict(versions.deals), versions.next_number)


def deal_state(deal):
    return {name: (dict(worth) if isinstance(worth, dict) else list(worth) if isinstance(worth, list) else worth)
            for name, worth in vars(deal).items()}


def keep(versions, *rows):
    """Keep some (key, value) rows at one new time, and return that."""
    deal = versions.begin()
    for key, value in rows:
        versions.write(deal, key, value)
    return versions.commit(deal)


class Within(unittest.TestCase):
    def test_within(self):
        for key, low, high, answer in (("b", "b", "c", True), ("c", "b", "c", False), ("a", "b", "c", False),
                                       ("b", None, "c", True), ("b", "a", None, True), ("b", None, None, True),
                                       ("c", None, "c", False), ("a", "b", None, False), ("b", "c", "a", False),
                                       (5, 5, 6, True), (6, 5, 6, False), (-1, 0, None, False), ("", "", "", False)):
            self.assertIs(is_within(key, low, high), answer)


class Deals(unittest.TestCase):
    def test_new(self):
        versions = Versions()
        self.assertEqual((versions.rows, versions.time, versions.trimmed, versions.deals), ({}, 0, 0, {}))
        self.assertIs(type(versions.next_number), int)
        self.assertEqual(versions.table_at(0), {})
        self.assertIsNone(versions.value_at("a", 0))
        self.assertEqual(versions.changes(0, 0), ())
        deal = Dealing(7, 3, True)
        self.assertEqual((deal.number, deal.sees, deal.strict, deal.goes_on), (7, 3, True, True))

    def test_begin(self):
        versions = Versions()
        one, other, third = versions.begin(), versions.begin(True), versions.begin(strict=False)
        self.assertEqual([deal.strict for deal in (one, other, third)], [False, True, False])
        self.assertEqual([deal.sees for deal in (one, other, third)], [0, 0, 0])
        self.assertEqual([deal.goes_on for deal in (one, other, third)], [True, True, True])
        self.assertEqual([deal.number for deal in (one, other, third)], [1, 2, 3])
        self.assertEqual(versions.deals, {1: one, 2: other, 3: third})
        keep(versions, ("a", 1))
        self.assertEqual(versions.begin().sees, 1)

    def test_times(self):
        versions = Versions()
        self.assertEqual([keep(versions, ("a", 1)), keep(versions, ("b", 2), ("a", 3)), keep(versions, ("a", None))],
                         [1, 2, 3])
        self.assertEqual(versions.time, 3)
        self.assertEqual(versions.rows, {"a": [(1, 1), (2, 3), (3, None)], "b": [(2, 2)]})
        self.assertEqual([versions.table_at(time) for time in range(4)], [{}, {"a": 1}, {"a": 3, "b": 2}, {"b": 2}])
        self.assertEqual([versions.value_at("a", time) for time in range(4)], [None, 1, 3, None])
        self.assertEqual(versions.value_at("none", 2), None)
        for time in (-1, 4, 100):
            with self.assertRaises(TableError):
                versions.value_at("a", time)
            with self.assertRaises(TableError):
                versions.value_at("none", time)
            with self.assertRaises(TableError):
                versions.table_at(time)

    def test_a_deal_that_wrote_nothing(self):
        versions = Versions()
        keep(versions, ("a", 1))
        for strict in (False, True):
            deal = versions.begin(strict)
            versions.read(deal, "a")
            versions.scan(deal, None, None)
            keep(versions, ("a", versions.time))
            self.assertEqual(versions.conflicts(deal), ())
            time = versions.time
            self.assertEqual(versions.commit(deal), time - 1)
            self.assertEqual((versions.time, deal.goes_on, versions.deals), (time, False, {}))

    def test_nobody_else_sees_what_is_written(self):
        versions = Versions()
        keep(versions, ("a", 1), ("b", 2))
        one, other = versions.begin(), versions.begin()
        self.assertIsNone(versions.write(one, "a", 5))
        versions.write(one, "b", None)
        versions.write(one, "c", False)
        self.assertEqual([versions.read(one, key) for key in "abcd"], [5, None, False, None])
        self.assertEqual(versions.scan(one, None, None), (("a", 5), ("c", False)))
        self.assertEqual(versions.scan(one, "b", "d"), (("c", False),))
        self.assertEqual([versions.read(other, key) for key in "abcd"], [1, 2, None, None])
        self.assertEqual(versions.scan(other, "", None), (("a", 1), ("b", 2)))
        self.assertEqual(versions.table_at(1), {"a": 1, "b": 2})
        self.assertEqual(versions.commit(one), 2)
        self.assertEqual(versions.scan(other, "", None), (("a", 1), ("b", 2)))
        self.assertEqual(versions.read(other, "a"), 1)
        self.assertEqual(versions.table_at(2), {"a": 5, "c": False})

    def test_scan(self):
        versions = Versions()
        keep(versions, *[(key, key * 2) for key in KEYS])
        deal = versions.begin()
        for low in (None, "", "a", "b", "bb", "ff", "zz"):
            for high in (None, "", "a", "c", "f", "zz"):
                self.assertEqual(versions.scan(deal, low, high), tuple(
                    (key, key * 2) for key in KEYS if (low is None or key >= low) and (high is None or key < high)))

    def test_keys_that_are_none(self):
        versions = Versions()
        deal = versions.begin()
        for key in NO_KEYS:
            before = deal_state(deal)
            with self.assertRaises(TableError):
                versions.write(deal, key, 1)
            self.assertEqual(deal_state(deal), before)
        self.assertEqual(versions.commit(deal), 0)
        self.assertEqual((versions.time, versions.rows), (0, {}))

    def test_over(self):
        versions = Versions()
        keep(versions, ("a", 1))
        for end in (versions.commit, versions.drop):
            for key in ("a", None):
                deal = versions.begin()
                if key is not None:
                    versions.write(deal, key, 2)
                end(deal)
                before = state(versions), deal_state(deal)
                for work in (versions.commit, versions.drop):
                    with self.assertRaises(TableError):
                        work(deal)
                    self.assertEqual((state(versions), deal_state(deal)), before)

    def test_drop(self):
        versions = Versions()
        deal = versions.begin()
        versions.write(deal, "a", 1)
        self.assertIsNone(versions.drop(deal))
        self.assertEqual((deal.goes_on, versions.deals, versions.time, versions.rows), (False, {}, 0, {}))

    def test_dropping_a_key_is_a_change(self):
        versions = Versions()
        self.assertEqual(keep(versions, ("a", None)), 1)
        self.assertEqual(versions.changes(0, 1), ((1, "a", None),))
        self.assertEqual(versions.table_at(1), {})
        self.assertIs(versions.changed_since("a", 0), True)


class Conflicts(unittest.TestCase):
    def test_same_and_other_keys(self):
        versions = Versions()
        keep(versions, ("a", 1), ("b", 1))
        one, other, third = versions.begin(), versions.begin(), versions.begin()
        versions.write(one, "a", 2)
        versions.write(other, "a", 2)
        versions.write(third, "b", 3)
        self.assertEqual(versions.commit(one), 2)
        self.assertEqual(versions.conflicts(other), ("a",))
        self.assertIsNone(versions.commit(other))
        self.assertEqual((other.goes_on, versions.time), (False, 2))
        with self.assertRaises(TableError):
            versions.drop(other)
        self.assertEqual(versions.conflicts(third), ())
        self.assertEqual(versions.commit(third), 3)
        self.assertEqual(versions.table_at(3), {"a": 2, "b": 3})

    def test_wholly_or_not_at_all(self):
        versions = Versions()
        deal = versions.begin()
        for key in "ecab":
            versions.write(deal, key, 1)
        keep(versions, ("b", 5), ("e", 5), ("x", 5))
        self.assertEqual(versions.conflicts(deal), ("b", "e"))
        self.assertIsNone(versions.commit(deal))
        self.assertEqual(versions.table_at(1), {"b": 5, "e": 5, "x": 5})
        self.assertEqual(versions.deals, {})

    def test_reads_count_in_strict_deals_alone(self):
        for strict in (False, True):
            versions = Versions()
            keep(versions, ("a", 1))
            deal = versions.begin(strict)
            versions.read(deal, "a")
            versions.read(deal, "none")
            versions.write(deal, "z", 1)
            self.assertEqual(versions.conflicts(deal), ())
            keep(versions, ("none", 1))
            keep(versions, ("a", None))
            self.assertEqual(versions.conflicts(deal), ("a", "none") if strict else ())
            self.assertEqual(versions.commit(deal), None if strict else 4)

    def test_reads_of_what_it_wrote(self):
        versions = Versions()
        deal = versions.begin(True)
        versions.write(deal, "a", 1)
        self.assertEqual(versions.read(deal, "a"), 1)
        keep(versions, ("b", 1))
        self.assertEqual(versions.conflicts(deal), ())
        keep(versions, ("a", 1))
        self.assertEqual(versions.conflicts(deal), ("a",))

    def test_ranges(self):
        for low, high, key, counts in (("b", "d", "b", True), ("b", "d", "c", True), ("b", "d", "d", False),
                                       ("b", "d", "a", False), (None, "b", "a", True), ("b", None, "zz", True),
                                       (None, None, "q", True), ("d", "b", "c", False)):
            for before in ((), ((key, 1),)):
                for after in (((key, 2),), ((key, None),), ((key, 2), (key, None))):
                    versions = Versions()
                    keep(versions, ("x", 0), *before)
                    deal = versions.begin(True)
                    versions.scan(deal, low, high)
                    # A key that is not there, one that comes, one that goes, one that comes and goes.
                    for row in after:
                        keep(versions, row)
                    self.assertEqual(versions.conflicts(deal), ())
                    versions.write(deal, "0", 1)
                    self.assertEqual(versions.conflicts(deal), (key,) if counts else ())
                    weak = versions.begin()
                    versions.scan(weak, low, high)
                    versions.write(weak, "1", 1)
                    keep(versions, (key, 3))
                    self.assertEqual(versions.conflicts(weak), ())

    def test_each_key_once_in_order(self):
        versions = Versions()
        deal = versions.begin(True)
        versions.scan(deal, "a", "d")
        versions.scan(deal, "b", None)
        for key in "ecb":
            versions.read(deal, key)
        for key in "dba":
            versions.write(deal, key, 1)
        keep(versions, *[(key, 1) for key in "edcbaf"])
        self.assertEqual(versions.conflicts(deal), ("a", "b", "c", "d", "e", "f"))

    def test_changed_since(self):
        versions = Versions()
        keep(versions, ("a", 1))
        keep(versions, ("b", 1))
        self.assertEqual([versions.changed_since("a", time) for time in (0, 1, 2)], [True, False, False])
        self.assertEqual([versions.changed_since("b", time) for time in (0, 1, 2)], [True, True, False])
        self.assertIs(versions.changed_since("c", 0), False)

    def test_own_changes_before_are_no_conflict(self):
        versions = Versions()
        keep(versions, ("a", 1))
        deal = versions.begin(True)
        self.assertEqual(versions.read(deal, "a"), 1)
        versions.write(deal, "a", 2)
        self.assertEqual(versions.commit(deal), 2)


class Forgetting(unittest.TestCase):
    def filled(self):
        """Return versions: a changes at 1, 2 and 5, b comes at 2 and goes at 3, c comes at 4."""
        versions = Versions()
        keep(versions, ("a", 1))
        keep(versions, ("a", 2), ("b", 2))
        keep(versions, ("b", None))
        keep(versions, ("c", 4))
        keep(versions, ("a", 5))
        return versions

    def test_each_time(self):
        rows = {"a": [(1, 1), (2, 2), (5, 5)], "b": [(2, 2), (3, None)], "c": [(4, 4)]}
        for time, many, left in (
                (-3, 0, rows), (0, 0, rows), (1, 0, rows), (2, 1, {**rows, "a": [(2, 2), (5, 5)]}),
                (3, 3, {"a": [(2, 2), (5, 5)], "c": [(4, 4)]}), (4, 3, {"a": [(2, 2), (5, 5)], "c": [(4, 4)]}),
                (5, 4, {"a": [(5, 5)], "c": [(4, 4)]}), (6, 4, {"a": [(5, 5)], "c": [(4, 4)]}),
                (100, 4, {"a": [(5, 5)], "c": [(4, 4)]})):
            versions = self.filled()
            tables = [versions.table_at(at) for at in range(6)]
            self.assertEqual(versions.trim(time), many)
            self.assertEqual((versions.rows, versions.trimmed, versions.time), (left, max(0, min(5, time)), 5))
            for at in range(6):
                if at < versions.trimmed:
                    with self.assertRaises(TableError):
                        versions.table_at(at)
                    with self.assertRaises(TableError):
                        versions.value_at("a", at)
                    with self.assertRaises(TableError):
                        versions.changes(at, 5)
                else:
                    self.assertEqual(versions.table_at(at), tables[at])
            self.assertEqual(versions.trim(time), 0)
            self.assertEqual(versions.trim(0), 0)
            self.assertEqual(versions.trimmed, max(0, min(5, time)))

    def test_open_deals(self):
        versions = Versions()
        deals = []
        for number in range(6):
            deals.append(versions.begin(number % 2 == 0))
            keep(versions, ("a", number), ("b" + str(number), number))
        self.assertEqual(versions.trim(6), 0)
        self.assertEqual(versions.trimmed, 0)
        versions.drop(deals[1])
        self.assertEqual((versions.trim(6), versions.trimmed), (0, 0))
        versions.drop(deals[0])
        self.assertEqual((versions.trim(1), versions.trimmed), (0, 1))
        self.assertEqual((versions.trim(6), versions.trimmed), (1, 2))
        self.assertEqual(versions.read(deals[2], "a"), 1)
        self.assertEqual(versions.scan(deals[2], None, None), (("a", 1), ("b0", 0), ("b1", 1)))
        versions.write(deals[3], "q", 1)
        self.assertEqual(versions.commit(deals[3]), 7)
        versions.commit(deals[2])
        self.assertEqual((versions.trim(100), versions.trimmed), (2, 4))
        versions.drop(deals[4])
        versions.drop(deals[5])
        self.assertEqual((versions.trim(100), versions.trimmed), (2, 7))

    def test_a_deal_that_is_over_sees_what_is_gone_no_more(self):
        versions = self.filled()
        deal = versions.begin()
        versions.commit(deal)
        keep(versions, ("a", 6))
        versions.trim(6)
        before = deal_state(deal)
        with self.assertRaises(TableError):
            versions.read(deal, "a")
        with self.assertRaises(TableError):
            versions.scan(deal, None, None)
        self.assertEqual(deal_state(deal), before)

    def test_conflicts_behind_what_is_seen_stay(self):
        versions = Versions()
        keep(versions, ("a", 1))
        deal = versions.begin(True)
        versions.scan(deal, None, None)
        versions.write(deal, "z", 1)
        keep(versions, ("b", 1))
        keep(versions, ("b", None))
        versions.trim(100)
        self.assertEqual(versions.conflicts(deal), ("b",))


class Changes(unittest.TestCase):
    def test_order(self):
        versions = Versions()
        keep(versions, ("b", 1), ("a", 2), ("c", None))
        keep(versions, ("a", None))
        keep(versions, ("a", 4), ("0", ("r",)))
        rows = ((1, "a", 2), (1, "b", 1), (1, "c", None), (2, "a", None), (3, "0", ("r",)), (3, "a", 4))
        for low in range(4):
            for high in range(low, 4):
                self.assertEqual(versions.changes(low, high), tuple(row for row in rows if low < row[0] <= high))
        for low, high in ((-1, 2), (2, 1), (0, 4), (4, 4), (3, 2), (-2, -1)):
            with self.assertRaises(TableError):
                versions.changes(low, high)
        versions.trim(2)
        self.assertEqual(versions.changes(2, 3), rows[4:])
        self.assertEqual(versions.changes(2, 2), ())
        for low, high in ((1, 3), (0, 0), (1, 2)):
            with self.assertRaises(TableError):
                versions.changes(low, high)


class Tables:
    """All tables by time, and what deals read, by the words of point [21]."""

    def __init__(self):
        self.tables = [{}]
        self.changes = [()]

    def keep(self, wrote):
        table = {**self.tables[-1], **wrote}
        self.tables.append({key: value for key, value in table.items() if value is not None})
        self.changes.append(tuple(sorted((key, value) for key, value in wrote.items())))

    def changed(self, key, time):
        return any(key == one for rows in self.changes[time + 1:] for one, _ in rows)


class Drawn(unittest.TestCase):
    def seen(self, plain, deal, wrote):
        table = {**plain.tables[deal.sees], **wrote}
        return {key: value for key, value in table.items() if value is not None}

    def expected(self, plain, deal, wrote, keys, ranges):
        """Return the keys for which a deal cannot be kept."""
        if not wrote:
            return ()
        found = set(wrote)
        if deal.strict:
            found |= set(keys)
            found |= {key for key in KEYS for low, high in ranges if is_within(key, low, high)}
        return tuple(sorted(key for key in found if plain.changed(key, deal.sees)))

    def run_once(self, seed):
        draw = random.Random(seed)
        versions, plain = Versions(), Tables()
        open_deals = []
        dropped = gone = 0
        for _ in range(120):
            word = draw.choice(("begin", "read", "read", "scan", "write", "write", "write", "end", "end", "trim"))
            if word == "begin" or not open_deals:
                deal = versions.begin(draw.random() < 0.5)
                self.assertEqual(deal.sees, versions.time)
                open_deals.append((deal, {}, [], []))
            deal, wrote, keys, ranges = row = draw.choice(open_deals)
            key = draw.choice(KEYS)
            if word == "read":
                self.assertEqual(versions.read(deal, key), self.seen(plain, deal, wrote).get(key))
                keys += [] if key in wrote else [key]
            elif word == "scan":
                low, high = draw.choice(KEYS + (None,)), draw.choice(KEYS + (None,))
                self.assertEqual(versions.scan(deal, low, high), tuple(sorted(
                    (one, value) for one, value in self.seen(plain, deal, wrote).items() if is_within(one, low, high))))
                ranges.append((low, high))
            elif word == "write":
                wrote[key] = draw.choice(("x", "y", None, None, "z"))
                versions.write(deal, key, wrote[key])
            elif word == "end":
                open_deals.remove(row)
                conflicts = self.expected(plain, deal, wrote, keys, ranges)
                self.assertEqual(versions.conflicts(deal), conflicts)
                if draw.random() < 0.2:
                    versions.drop(deal)
                elif conflicts:
                    self.assertIsNone(versions.commit(deal))
                    dropped += 1
                elif wrote:
                    plain.keep(wrote)
                    self.assertEqual(versions.commit(deal), len(plain.tables) - 1)
                else:
                    self.assertEqual(versions.commit(deal), deal.sees)
                self.assertIs(deal.goes_on, False)
            elif word == "trim" and draw.random() < 0.4:
                gone += self.check_trim(versions, draw.randrange(versions.time + 3), [one[0] for one in open_deals])
            self.assertEqual(versions.time, len(plain.tables) - 1)
            self.assertEqual(sorted(versions.deals), sorted(one[0].number for one in open_deals))
            self.check_times(versions, plain)
        return dropped, gone

    def check_trim(self, versions, time, deals):
        low = max(min([time, versions.time] + [deal.sees for deal in deals]), versions.trimmed)
        rows = {key: list(some) for key, some in versions.rows.items()}
        left = {}
        for key, some in rows.items():
            before = [row for row in some if row[0] <= low]
            left[key] = [row for row in before[-1:] if row[1] is not None] + some[len(before):]
        if low == versions.trimmed:
            left = rows
        many = versions.trim(time)
        self.assertEqual(versions.rows, {key: some for key, some in left.items() if some})
        self.assertEqual(versions.trimmed, low)
        self.assertEqual(many, sum(map(len, rows.values())) - sum(map(len, left.values())))
        return many

    def check_times(self, versions, plain):
        for time in range(max(0, versions.trimmed - 1), versions.time + 2):
            if versions.trimmed <= time <= versions.time:
                self.assertEqual(versions.table_at(time), plain.tables[time])
                for key in KEYS:
                    self.assertEqual(versions.value_at(key, time), plain.tables[time].get(key))
                rows = tuple((at,) + row for at in range(time + 1, versions.time + 1) for row in plain.changes[at])
                self.assertEqual(versions.changes(time, versions.time), rows)
            else:
                with self.assertRaises(TableError):
                    versions.table_at(time)

    def test_drawn(self):
        runs = [self.run_once(seed) for seed in range(200)]
        self.assertGreater(sum(dropped for dropped, _ in runs), 300)
        self.assertGreater(sum(gone for _, gone in runs), 300)


if __name__ == "__main__":
    unittest.main()
