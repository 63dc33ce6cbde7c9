"""Points [26] and [27]: indexes, followers who hear of each change once, and backups of any time."""

import random
import unittest

from shardstack.errors import ShardError, TableError, WireError
from shardstack.tables import Follower, Index, Table, backup_rows, restored
from shardstack.wire import frame

KEYS = ("a", "b", "c", "d", "user 1", "user 2", "us")


def keep(table, *rows):
    """Keep some (key, value) rows by one deal, and return its answer."""
    deal = table.versions.begin()
    for key, value in rows:
        table.versions.write(deal, key, value)
    return table.commit(deal)


def state(table):
    """Return all that a table holds."""
    versions = table.versions
    return ({key: list(rows) for key, rows in versions.rows.items()}, versions.time, versions.trimmed,
            dict(versions.deals),
            {name: (index.place, index.single, {field: list(keys) for field, keys in index.by_field.items()})
             for name, index in table.indexes.items()},
            {name: (follower.prefix, follower.time) for name, follower in table.followers.items()})


class Fields(unittest.TestCase):
    def test_index(self):
        index = Index("by name", 1, True)
        self.assertEqual((index.name, index.by_field), ("by name", {}))

    def test_field(self):
        rows = (("x",), ("x", "y"), ("x", 5, 6), ("x", None, "z"), (), None, "xyz", 7, True, ("x", ("y", 1)), ("x", 0),
                ("x", ""), ("x", False))
        for place, fields in ((0, ["x", "x", "x", "x", None, None, None, None, None, "x", "x", "x", "x"]),
                              (1, [None, "y", 5, None, None, None, None, None, None, ("y", 1), 0, "", False]),
                              (2, [None, None, 6, "z"] + [None] * 9), (3, [None] * 13)):
            index = Index("i", place, False)
            self.assertEqual([index.field(row) for row in rows], fields)

    def test_move(self):
        index = Index("i", 0, False)
        told = []
        for key, old, new in (("b", None, ("x",)), ("a", None, ("x", 1)), ("c", None, "no row"), ("d", None, ("y",)),
                              ("b", ("x",), ("y",)), ("a", ("x", 1), ("x", 2)), ("a", ("x", 2), None),
                              ("c", "no row", ("y",)), ("d", ("y",), ("y",)), ("b", ("y",), (None,)),
                              ("e", None, None)):
            self.assertIsNone(index.move(key, old, new))
            told.append({field: list(keys) for field, keys in index.by_field.items()})
        self.assertEqual(told, [
            {"x": ["b"]}, {"x": ["a", "b"]}, {"x": ["a", "b"]}, {"x": ["a", "b"], "y": ["d"]},
            {"x": ["a"], "y": ["b", "d"]}, {"x": ["a"], "y": ["b", "d"]}, {"y": ["b", "d"]}, {"y": ["b", "c", "d"]},
            {"y": ["b", "c", "d"]}, {"y": ["c", "d"]}, {"y": ["c", "d"]}])
        self.assertIs(type(index.by_field["y"]), list)

    def test_clash(self):
        index = Index("i", 0, True)
        there = {"a": ("x",), "b": ("y",), "c": "no row", "d": (None,)}
        for changes, answer in (
                ({}, None), ({"e": ("z",)}, None), ({"e": ("x",)}, "x"), ({"a": ("x", 2)}, None), ({"a": ("y",)}, "y"),
                ({"a": ("y",), "b": ("x",)}, None), ({"a": None, "e": ("x",)}, None), ({"a": ("z",), "e": ("x",)}, None),
                ({"e": ("z",), "f": ("z",)}, "z"), ({"a": ("z",), "e": ("x",), "f": ("x",)}, "x"),
                ({"e": (None,), "f": (None,)}, None), ({"e": "no row", "f": 5}, None), ({"b": ("x",), "a": None}, None),
                ({"0": ("y",)}, "y")):
            self.assertEqual(index.clash(changes, there), answer)
        self.assertEqual(there, {"a": ("x",), "b": ("y",), "c": "no row", "d": (None,)})
        self.assertEqual(index.clash({"a": (5,), "b": (5,)}, {}), 5)
        self.assertEqual(index.by_field, {})
        self.assertIsNone(Index("i", 0, False).clash({"e": ("x",), "f": ("x",)}, there))
        self.assertIsNone(Index("i", 1, True).clash({"e": ("x",), "f": ("x",)}, there))

    def test_first_clash_by_keys(self):
        index = Index("i", 0, True)
        self.assertEqual(index.clash({"d": ("y",), "c": ("y",), "b": ("x",), "a": ("x",)}, {}), "x")
        self.assertEqual(index.clash({"a": ("y",), "b": ("x",)}, {"c": ("y",), "d": ("x",)}), "y")


class Indexes(unittest.TestCase):
    def test_new(self):
        table = Table()
        self.assertEqual((table.versions.time, table.indexes, table.followers), (0, {}, {}))

    def test_over_what_is_there_and_what_comes(self):
        table = Table()
        keep(table, ("b", ("x", 2)), ("a", ("x", 1)), ("c", "no row"), ("d", ("y",)), ("e", (None, 3)))
        self.assertIsNone(table.add_index("first", 0))
        table.add_index("second", 1, True)
        self.assertEqual(table.indexes["first"].by_field, {"x": ["a", "b"], "y": ["d"]})
        self.assertEqual(table.indexes["second"].by_field, {1: ["a"], 2: ["b"], 3: ["e"]})
        self.assertEqual(keep(table, ("0", ("x", 9)), ("b", None), ("c", ("y", 2)), ("d", 7)), 2)
        self.assertEqual(table.indexes["first"].by_field, {"x": ["0", "a"], "y": ["c"]})
        self.assertEqual(table.indexes["second"].by_field, {1: ["a"], 2: ["c"], 3: ["e"], 9: ["0"]})
        self.assertEqual([(index.name, name) for name, index in table.indexes.items()],
                         [("first", "first"), ("second", "second")])

    def test_errors(self):
        table = Table()
        keep(table, ("a", ("x", 1)), ("b", ("x", 2)))
        table.add_index("i", 0)
        for name, place, single in (("i", 0, False), ("i", 1, True), ("j", -1, False), ("j", -1, True), ("j", 0, True),
                                    ("i", -1, False)):
            before = state(table)
            with self.assertRaises(TableError):
                table.add_index(name, place, single)
            self.assertEqual(state(table), before)
        table.add_index("j", 1, True)
        table.add_index("k", 99, True)

    def test_a_field_for_one_key_alone(self):
        table = Table()
        table.add_index("i", 0, True)
        self.assertEqual(keep(table, ("a", ("x",)), ("b", ("y",))), 1)
        # Given to two: dropped, and nothing has changed.
        for rows in ((("c", ("x",)),), (("c", ("z",)), ("d", ("z",))), (("a", ("y",)),),
                     (("a", ("z",)), ("c", ("y",)), ("d", ("q",)))):
            before = state(table)
            deal = table.versions.begin()
            for key, value in rows:
                table.versions.write(deal, key, value)
            self.assertIsNone(table.commit(deal))
            self.assertIs(deal.goes_on, False)
            self.assertEqual(state(table), before)
            with self.assertRaises(TableError):
                table.commit(deal)
            self.assertEqual(state(table), before)
        # Swapped, moved from key to key, freed and taken.
        self.assertEqual(keep(table, ("a", ("y",)), ("b", ("x",))), 2)
        self.assertEqual(table.look_up("i", None, None), (("x", "b"), ("y", "a")))
        self.assertEqual(keep(table, ("a", ("z",)), ("c", ("y",))), 3)
        self.assertEqual(keep(table, ("b", None), ("d", ("x",))), 4)
        self.assertEqual(table.look_up("i", None, None), (("x", "d"), ("y", "c"), ("z", "a")))
        self.assertEqual(keep(table, ("e", (None,)), ("f", (None,)), ("g", "y"), ("h", ())), 5)

    def test_each_of_several_indexes(self):
        table = Table()
        table.add_index("i", 0, True)
        table.add_index("j", 1, True)
        table.add_index("k", 1)
        self.assertEqual(keep(table, ("a", ("x", 1)), ("b", ("y", 2))), 1)
        self.assertIsNone(keep(table, ("c", ("z", 2))))
        self.assertIsNone(keep(table, ("c", ("x", 3))))
        self.assertEqual(keep(table, ("c", ("z", 3))), 2)
        self.assertEqual(table.indexes["k"].by_field, {1: ["a"], 2: ["b"], 3: ["c"]})

    def test_conflicts(self):
        table = Table()
        table.add_index("i", 0, True)
        keep(table, ("a", ("x",)))
        for field in ("x", "z"):
            deal = table.versions.begin()
            table.versions.write(deal, "b", (field,))
            keep(table, ("b", ("q" + str(table.versions.time),)))
            before = state(table)
            self.assertEqual(table.versions.conflicts(deal), ("b",))
            self.assertIsNone(table.commit(deal))
            self.assertEqual(deal.goes_on, False)
            before[3].pop(deal.number)
            self.assertEqual(state(table), before)

    def test_what_is_there_now_counts(self):
        # The deal does not see that the field was taken, or freed, meanwhile.
        table = Table()
        table.add_index("i", 0, True)
        keep(table, ("a", ("x",)))
        one, other = table.versions.begin(), table.versions.begin()
        table.versions.write(one, "b", ("x",))
        table.versions.write(other, "c", ("y",))
        keep(table, ("a", None), ("d", ("y",)))
        self.assertEqual(table.commit(one), 3)
        self.assertIsNone(table.commit(other))
        self.assertEqual(table.look_up("i", None, None), (("x", "b"), ("y", "d")))

    def test_a_deal_that_wrote_nothing(self):
        table = Table()
        table.add_index("i", 0, True)
        keep(table, ("a", ("x",)))
        deal = table.versions.begin(True)
        table.versions.scan(deal, None, None)
        keep(table, ("b", ("y",)))
        self.assertEqual(table.commit(deal), 1)
        with self.assertRaises(TableError):
            table.commit(deal)

    def test_look_up(self):
        table = Table()
        keep(table, ("b", ("x", 10)), ("a", ("x", 9)), ("c", ("w", 100)), ("d", ("y", -1)), ("e", 5))
        table.add_index("text", 0)
        table.add_index("number", 1)
        rows = (("w", "c"), ("x", "a"), ("x", "b"), ("y", "d"))
        for low, high, answer in ((None, None, rows), ("x", "y", rows[1:3]), ("x", None, rows[1:]), (None, "x", rows[:1]),
                                  ("", "w", ()), ("y", "x", ()), ("wa", "xa", rows[1:3]), ("z", None, ())):
            self.assertEqual(table.look_up("text", low, high), answer)
        self.assertEqual(table.look_up("number", None, None), ((-1, "d"), (9, "a"), (10, "b"), (100, "c")))
        self.assertEqual(table.look_up("number", 0, 10), ((9, "a"),))
        self.assertEqual(table.look_up("number", 10, 101), ((10, "b"), (100, "c")))
        for name in ("none", "", "e"):
            with self.assertRaises(TableError):
                table.look_up(name, None, None)

    def test_drawn(self):
        dropped = 0
        for seed in range(60):
            draw = random.Random(seed)
            table, plain = Table(), {}
            for at in range(60):
                if at == 10:
                    table.add_index("many", 0)
                    table.add_index("one", 1)
                if at == 20 and len({row[1] for row in plain.values() if len(row) > 1}) == sum(
                        len(row) > 1 for row in plain.values()):
                    table.add_index("single", 1, True)
                rows = {draw.choice(KEYS): draw.choice((None, (draw.choice("xyz"), draw.randrange(12)), (), ("z",)))
                        for _ in range(draw.randint(1, 3))}
                after = {key: value for key, value in {**plain, **rows}.items() if value is not None}
                fields = [row[1] for row in after.values() if len(row) > 1]
                if "single" in table.indexes and len(set(fields)) < len(fields):
                    self.assertIsNone(keep(table, *rows.items()))
                    dropped += 1
                else:
                    self.assertEqual(keep(table, *rows.items()), table.versions.time)
                    plain = after
                self.assertEqual(table.versions.table_at(table.versions.time), plain)
                for name, index in table.indexes.items():
                    found = {}
                    for key in sorted(plain):
                        field = index.field(plain[key])
                        if field is not None:
                            found.setdefault(field, []).append(key)
                    self.assertEqual(index.by_field, found)
                    self.assertEqual(table.look_up(name, None, None),
                                     tuple((field, key) for field in sorted(found) for key in found[field]))
        self.assertGreater(dropped, 50)


class Followers(unittest.TestCase):
    def test_new(self):
        follower = Follower("us", 7)
        self.assertEqual((follower.prefix, follower.time), ("us", 7))

    def test_follow(self):
        table = Table()
        keep(table, ("user 2", 1), ("a", 2), ("user 1", ("r",)))
        keep(table, ("user 3", 1))
        keep(table, ("user 3", None))
        self.assertEqual(table.follow("f", "user"), (("user 1", ("r",)), ("user 2", 1)))
        self.assertEqual(table.follow("all", ""), (("a", 2), ("user 1", ("r",)), ("user 2", 1)))
        self.assertEqual(table.follow("none", "x"), ())
        self.assertEqual({name: one.time for name, one in table.followers.items()}, {"f": 3, "all": 3, "none": 3})
        for name in table.followers:
            self.assertEqual(table.hear(name), ("changes", ()))

    def test_hear_once_and_in_order(self):
        table = Table()
        keep(table, ("user 1", 1))
        table.follow("f", "user")
        table.follow("g", "a")
        keep(table, ("user 2", 2), ("a", 2), ("user 1", None), ("use", 2))
        keep(table, ("user", 3))
        self.assertEqual(table.hear("f"), ("changes", ((2, "user 1", None), (2, "user 2", 2), (3, "user", 3))))
        self.assertEqual(table.hear("f"), ("changes", ()))
        keep(table, ("user 2", 4))
        self.assertEqual(table.hear("f"), ("changes", ((4, "user 2", 4),)))
        self.assertEqual(table.followers["f"].time, 4)
        self.assertEqual(table.followers["g"].time, 1)
        self.assertEqual(table.hear("g"), ("changes", ((2, "a", 2),)))
        for name in ("h", "", "user"):
            with self.assertRaises(TableError):
                table.hear(name)

    def test_anew(self):
        table = Table()
        keep(table, ("user 1", 1), ("a", 1))
        table.follow("f", "user")
        keep(table, ("user 2", 2))
        keep(table, ("a", 3))
        table.versions.trim(1)
        self.assertEqual(table.hear("f"), ("changes", ((2, "user 2", 2),)))
        keep(table, ("user 1", None))
        keep(table, ("user 3", 5))
        table.follow("g", "")
        # What f has heard of lies ahead of what was trimmed now.
        table.versions.trim(4)
        self.assertEqual(table.hear("f"), ("anew", (("user 2", 2), ("user 3", 5))))
        self.assertEqual(table.followers["f"].time, 5)
        self.assertEqual(table.hear("f"), ("changes", ()))
        self.assertEqual(table.hear("g"), ("changes", ()))
        table.versions.trim(5)
        self.assertEqual(table.hear("g"), ("changes", ()))

    def test_anew_also_where_none_of_its_keys_changed(self):
        table = Table()
        keep(table, ("user 1", 1))
        table.follow("f", "user")
        keep(table, ("a", 2))
        table.versions.trim(2)
        self.assertEqual(table.hear("f"), ("anew", (("user 1", 1),)))

    def test_follows_again(self):
        table = Table()
        table.follow("f", "a")
        keep(table, ("a", 1), ("b", 1))
        self.assertEqual(table.follow("f", "b"), (("b", 1),))
        keep(table, ("a", 2), ("b", 2))
        self.assertEqual(table.hear("f"), ("changes", ((2, "b", 2),)))
        self.assertEqual(table.follow("f", ""), (("a", 2), ("b", 2)))
        self.assertEqual(table.hear("f"), ("changes", ()))

    def test_drawn(self):
        for seed in range(60):
            draw = random.Random(seed)
            table = Table()
            copies = {}
            heard = set()
            for _ in range(80):
                word = draw.choice(("keep", "keep", "keep", "hear", "hear", "follow", "trim"))
                name = draw.choice("fgh")
                if word == "keep":
                    keep(table, *[(draw.choice(KEYS), draw.choice((1, 2, ("r",), None))) for _ in range(draw.randint(1, 3))])
                elif word == "follow" and draw.random() < 0.3:
                    prefix = draw.choice(("", "us", "user", "a", "zz"))
                    copies[name] = prefix, dict(table.follow(name, prefix))
                elif word == "trim" and draw.random() < 0.4:
                    table.versions.trim(draw.randrange(table.versions.time + 2))
                elif word == "hear" and name in copies:
                    prefix, copy = copies[name]
                    is_gone = table.followers[name].time < table.versions.trimmed
                    mark, rows = table.hear(name)
                    heard.add(mark)
                    self.assertEqual(mark, "anew" if is_gone else "changes")
                    if mark == "anew":
                        copy = dict(rows)
                    for time, key, value in rows if mark == "changes" else ():
                        copy[key] = value
                        if value is None:
                            del copy[key]
                    copies[name] = prefix, copy
                    now = table.versions.table_at(table.versions.time)
                    self.assertEqual(copy, {key: value for key, value in now.items() if key.startswith(prefix)})


def small_table():
    """Return a table: a is 1 from 1 on, b is ("x",) from 2 on, a goes at 3, c comes at 4."""
    table = Table()
    keep(table, ("a", 1))
    keep(table, ("b", ("x",)))
    keep(table, ("a", None))
    keep(table, ("c", "w"))
    return table


TABLES = ({}, {"a": 1}, {"a": 1, "b": ("x",)}, {"b": ("x",)}, {"b": ("x",), "c": "w"})


class Backups(unittest.TestCase):
    def test_bytes_by_hand(self):
        table = Table()
        # The row ("shards", -1, 0, ()): of 4 values, 6 letters, and -1 as 5, 0.
        values = (7, 4, 6, 6, 83, 72, 65, 82, 68, 83, 5, 0, 4, 0, 7, 0)
        first = 1 + sum(values)
        second = sum(1 + sum(values[:at + 1]) for at in range(16))
        self.assertEqual(table.backup(), (0, 0, 0, 16) + values + (second // 256, second % 256, first // 256, first % 256))
        keep(table, ("b", True), ("a", 300))
        self.assertEqual(table.backup(), frame(("shards", -1, 1, (("a", 300), ("b", True)))))
        # The row ("shards", 0, 1, ((1, "a", 300), (1, "b", True))).
        values = (7, 4, 6, 6, 83, 72, 65, 82, 68, 83, 4, 0, 4, 1, 7, 2, 7, 3, 4, 1, 6, 1, 65, 4, 172, 2,
                  7, 3, 4, 1, 6, 1, 66, 2)
        first = 1 + sum(values)
        second = sum(1 + sum(values[:at + 1]) for at in range(len(values)))
        self.assertEqual(table.changes_backup(0), (0, 0, 0, len(values)) + values + (
            second // 256, second % 256, first // 256, first % 256))
        self.assertEqual(table.changes_backup(1), frame(("shards", 1, 1, ())))

    def test_by_words(self):
        table = small_table()
        self.assertEqual(table.backup(), frame(("shards", -1, 4, (("b", ("x",)), ("c", "w")))))
        self.assertEqual(table.changes_backup(1), frame(
            ("shards", 1, 4, ((2, "b", ("x",)), (3, "a", None), (4, "c", "w")))))
        self.assertEqual(restored(table.backup(), 4), TABLES[4])
        self.assertIs(type(table.backup()), tuple)

    def test_changes_that_were_trimmed(self):
        table = small_table()
        table.versions.trim(2)
        for time in (-1, 0, 1, 5, 100):
            with self.assertRaises(TableError):
                table.changes_backup(time)
        for time in (2, 3, 4):
            self.assertEqual(backup_rows(table.changes_backup(time))[0][1:3], (time, 4))

    def test_what_cannot_be_sent(self):
        table = Table()
        keep(table, ("a", "%"))
        with self.assertRaises(WireError):
            table.backup()
        with self.assertRaises(WireError):
            table.changes_backup(0)

    def test_nothing_changes(self):
        table = small_table()
        before = state(table)
        table.backup()
        table.changes_backup(0)
        self.assertEqual(state(table), before)


class Restoring(unittest.TestCase):
    def parts(self):
        """Return the bytes of a backup at 1, of the changes to 2, of those to 3 and of those to 4 (and none)."""
        table = Table()
        keep(table, ("a", 1))
        found = [table.backup()]
        for row in (("b", ("x",)), ("a", None), ("c", "w")):
            keep(table, row)
            found.append(table.changes_backup(table.versions.time - 1))
        return found + [table.changes_backup(4)]

    def test_at_each_time(self):
        first, second, third, fourth, none = self.parts()
        for data, last in ((first, 1), (first + second, 2), (first + second + third, 3),
                           (first + second + third + fourth, 4), (first + second + third + fourth + none + none, 4)):
            for time in range(-2, 7):
                if 1 <= time <= last:
                    self.assertEqual(restored(data, time), TABLES[time])
                else:
                    with self.assertRaises(TableError):
                        restored(data, time)

    def test_several_changes_in_one(self):
        table = Table()
        data = table.backup()
        for row in (("a", 1), ("b", ("x",)), ("a", None), ("c", "w")):
            keep(table, row)
        data += table.changes_backup(0)
        self.assertEqual([restored(data, time) for time in range(5)], list(TABLES))
        for time in (-1, 5):
            with self.assertRaises(TableError):
                restored(data, time)

    def test_wrong_order(self):
        first, second, third, fourth, none = self.parts()
        for data in (second, none, second + first, first + third, first + third + second, first + second + fourth,
                     first + second + second, first + first, first + second + first, first + none,
                     first + second + third + none, first + second + none + third, ()):
            for time in range(-1, 6):
                with self.assertRaises(TableError):
                    restored(data, time)

    def test_cut(self):
        parts = self.parts()
        data = sum(parts, ())
        whole = [len(sum(parts[:many], ())) for many in range(1, 6)]
        for at in range(len(data)):
            if at not in whole:
                for time in (1, 4):
                    with self.assertRaises(TableError):
                        restored(data[:at], time)
                if at > 0:
                    with self.assertRaises(TableError):
                        backup_rows(data[:at])
        for more in ((0,), (255,), data[:7]):
            with self.assertRaises(TableError):
                restored(data + more, 1)

    def test_changed_at_any_place(self):
        parts = self.parts()
        data = sum(parts[:2], ())
        for at in range(len(data)):
            for byte in {0, 1, 255, data[at] ^ 1, data[at] ^ 128, (data[at] + 1) % 256} - {data[at]}:
                wrong = data[:at] + (byte,) + data[at + 1:]
                with self.assertRaises(TableError):
                    backup_rows(wrong)
                with self.assertRaises(TableError):
                    restored(wrong, 1)

    def test_frames_of_other_values(self):
        good = ("shards", -1, 1, (("a", 1),))
        others = (None, True, 5, "shards", (), ("shards",), ("shards", -1, 1), ("shards", -1, 1, (), ()),
                  ("other", -1, 1, ()), ("SHARDS", -1, 1, ()), (-1, 1, (), "shards"), (None,) * 4)
        for value in others:
            for data in (frame(value), frame(good) + frame(value), frame(value) + frame(good)):
                with self.assertRaises(TableError):
                    backup_rows(data)
                with self.assertRaises(TableError):
                    restored(data, 1)

    def test_rows_that_are_none(self):
        good = ("shards", -1, 1, (("a", 1),))
        self.assertEqual(restored(frame(good), 1), {"a": 1})
        for begin, end, rows in ((-1, "1", ()), (-1, None, ()), (-1, True, ()), (-1, (1,), ()), (-1, 1, 5), (-1, 1, None),
                                 (-1, 1, "ab"), (-1, 1, (5,)), (-1, 1, (("a",),)), (-1, 1, (("a", 1, 2),)),
                                 (-1, 1, ((1, "a"),)), (-1, 1, (("", 1),)), (-1, 1, (("b", 1), ("a", 1))),
                                 (-1, 1, (("a", 1), ("a", 1))), (-1, 1, ("ab",)), (-1, 1, (("a", None),)),
                                 (-1, -1, ()), (-1, -2, ()), ("-1", 1, ()), (None, 1, ()), (-2, 1, ()), (0, 1, ()),
                                 (-1, False, ())):
            for time in (-2, -1, 0, 1, 2):
                with self.assertRaises(TableError, msg=(begin, end, rows)):
                    restored(frame(("shards", begin, end, rows)), time)
        for begin, end, rows in ((1, "3", ()), (1, None, ()), (True, 3, ()), (1, 0, ()), (1, True, ()), (1, 3, 5),
                                 (1, 3, (5,)), (1, 3, (("b", 1),)), (1, 3, ((2, "b"),)), (1, 3, ((2, "b", 1, 1),)),
                                 (1, 3, (("2", "b", 1),)), (1, 3, ((2, 2, 1),)), (1, 3, ((2, "", 1),)),
                                 (1, 3, ((True, "b", 1),)), (1, 3, ((1, "b", 1),)), (1, 3, ((4, "b", 1),)),
                                 (1, 3, ((3, "b", 1), (2, "b", 1))), (1, 3, ((2, "b", 1), (2, "a", 1))),
                                 (1, 3, ((2, "b", 1), (2, "b", 2))), (1, 3, (None,)), (None, 3, ()), ("1", 3, ())):
            for time in (1, 2, 3):
                with self.assertRaises(TableError, msg=(begin, end, rows)):
                    restored(frame(good) + frame(("shards", begin, end, rows)), time)
        for row in ((1, 0, ()), (1, 2, ((False, "a", 1),))):
            with self.assertRaises(TableError):
                restored(frame(good) + frame(("shards",) + row) + frame(("shards", row[1], 3, ())), 1)
        with self.assertRaises(TableError):
            restored(frame(("shards", -1, 0, ())) + frame(("shards", False, 3, ())), 1)
        rows = ((2, "b", 1), (3, "a", None), (3, "b", 2))
        self.assertEqual([restored(frame(good) + frame(("shards", 1, 3, rows)), time) for time in (1, 2, 3)],
                         [{"a": 1}, {"a": 1, "b": 1}, {"b": 2}])

    def test_dropping_what_is_not_there(self):
        data = frame(("shards", -1, 0, ())) + frame(("shards", 0, 1, ((1, "a", None),)))
        self.assertEqual(restored(data, 1), {})

    def test_backup_rows(self):
        rows = [("shards", -1, 1, (("a", 1),)), ("shards", 1, 2, ((2, "b", None),)), ("shards", 5, 5, ())]
        data = frame(rows[0]) + frame(rows[1]) + frame(rows[2])
        self.assertEqual(backup_rows(data), rows)
        self.assertEqual(backup_rows(frame(rows[1])), rows[1:2])
        self.assertEqual(backup_rows(()), [])
        self.assertIs(type(backup_rows(data)), list)

    def test_drawn(self):
        for seed in range(60):
            draw = random.Random(seed)
            table = Table()
            tables = [{}]
            data, last, first = None, 0, 0
            for _ in range(40):
                word = draw.choice(("keep", "keep", "keep", "backup", "changes", "trim"))
                if word == "keep":
                    keep(table, *[(draw.choice(KEYS), draw.choice((1, "x", ("r", None), None))) for _ in range(draw.randint(1, 3))])
                    tables.append(table.versions.table_at(table.versions.time))
                elif word == "trim":
                    table.versions.trim(last)
                elif word == "backup" and (data is None or draw.random() < 0.2):
                    data, last = table.backup(), table.versions.time
                    first = last
                elif word == "changes" and data is not None:
                    data, last = data + table.changes_backup(last), table.versions.time
                if data is not None:
                    for time in range(first, last + 1):
                        self.assertEqual(restored(data, time), tables[time])
                    for time in (first - 1, last + 1):
                        with self.assertRaises(TableError):
                            restored(data, time)

    def test_no_other_error(self):
        draw = random.Random(1)
        pieces = (None, True, -1, 0, 1, 2, "a", "shards", (), ("a", 1), (("a", 1),), ((1, "a", 1),), ((2, "b", None),))
        good = frame(("shards", -1, 0, ()))
        for _ in range(3000):
            value = ("shards",) + tuple(draw.choice(pieces) for _ in range(3))
            for data in (frame(value), good + frame(value), good + frame(("shards", 0, 1, ())) + frame(value)):
                try:
                    self.assertIs(type(restored(data, draw.choice((0, 1, 2)))), dict)
                except ShardError as error:
                    self.assertIs(type(error), TableError)


if __name__ == "__main__":
    unittest.main()
