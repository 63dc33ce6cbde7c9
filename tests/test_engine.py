"""Point [20]: a table as a log and runs, which steps of the disk a deed takes, and a machine that goes down at each."""

import random
import unittest

from shardstack import engine as module
from shardstack.disk import Disk
from shardstack.engine import Engine, Run, engine_from, joined_runs
from shardstack.errors import StoreError, TableError, WireError
from shardstack.wire import frame

KEYS = ("a", "b", "c", "d", "e", "f", "g", "h", "long key", "z~")
VALUES = ("x", "", 0, 1, -5, True, False, ("row", 1), (), 10 ** 30, None, None)


def nested(depth):
    value = "deep"
    for _ in range(depth):
        value = (value,)
    return value


def state(engine):
    """Return all that an engine and its disk hold."""
    disk = engine.disk
    return (dict(engine.memory), [run.rows for run in engine.runs], engine.most, disk.kept, disk.waiting,
            dict(disk.files), disk.syncs, disk.fuse, disk.down)


def steps_of(engine, work):
    """Return how many steps of the disk a deed takes."""
    engine.disk.arm(100)
    work()
    left = engine.disk.fuse
    engine.disk.arm(None)
    return 100 - left


def come_up(engine, many, most=None):
    """Let the machine go down, of whose waiting bytes so many are kept, and return its engine when it is up again."""
    engine.disk.crash(many)
    engine.disk.restart()
    return engine_from(engine.disk, engine.most if most is None else most)


class Model:
    """What an engine has to hold, by the words of point [20]."""

    def __init__(self, most):
        self.most = most
        self.memory = {}
        self.runs = []
        self.was_put = False

    def put(self, key, value):
        self.was_put = True
        self.memory[key] = value
        if len(self.memory) >= self.most:
            self.flush()

    def flush(self):
        if self.memory:
            self.runs.insert(0, dict(self.memory))
            self.memory = {}
        if len(self.runs) > 4:
            older = self.runs.pop()
            newer = self.runs.pop()
            self.runs.append({key: value for key, value in {**older, **newer}.items() if value is not None})

    def compact(self):
        whole = self.table()
        self.runs = [whole] if self.was_put else []
        self.memory = {}

    def table(self):
        whole = {}
        for run in reversed(self.runs):
            whole.update(run)
        whole.update(self.memory)
        return {key: value for key, value in whole.items() if value is not None}


class Checked(unittest.TestCase):
    def check_table(self, engine, table):
        """value_of and scan tell a table."""
        rows = tuple(sorted(table.items()))
        self.assertEqual(engine.scan("", None), rows)
        for key in KEYS + ("none", "", "%", "A"):
            self.assertEqual(engine.value_of(key), table.get(key))
        for low, high in (("b", "f"), ("", "c"), ("d", None), (None, None), (None, "c"), ("f", "b"), ("c", "c"),
                          ("bb", "ff"), ("h", "zz")):
            self.assertEqual(engine.scan(low, high), tuple(
                row for row in rows if (low is None or row[0] >= low) and (high is None or row[0] < high)))

    def check_runs(self, engine, model):
        """Memory and runs are as the words tell."""
        self.assertEqual(engine.memory, model.memory)
        self.assertEqual([run.rows for run in engine.runs], [tuple(sorted(run.items())) for run in model.runs])
        self.assertEqual([run.table for run in engine.runs], model.runs)
        self.assertLessEqual(len(engine.runs), 4)


class Runs(unittest.TestCase):
    def test_run(self):
        rows = (("a", 1), ("b", None), ("dd", ("x",)))
        run = Run(rows)
        self.assertEqual((run.rows, run.table), (rows, {"a": 1, "b": None, "dd": ("x",)}))
        for key, answer in (("a", True), ("b", True), ("dd", True), ("c", False), ("", False), ("d", False)):
            self.assertIs(run.has(key), answer)
        for number in range(300):
            self.assertIs(run.has(f"k{number}"), False)
        empty = Run(())
        self.assertEqual((empty.rows, empty.table, empty.has("a")), ((), {}, False))
        with self.assertRaises(WireError):
            run.has("%")

    def test_filter_is_asked_first(self):
        self.assertEqual((module.FILTER_BITS, module.FILTER_WAYS), (64, 3))
        run = Run((("a", 1),))
        run.table["other"] = 2
        self.assertIs(run.has("other"), False)

    def test_joined(self):
        newer = Run((("a", None), ("b", 1), ("d", None), ("e", 5)))
        older = Run((("a", 3), ("b", 2), ("c", 4), ("f", None)))
        found = joined_runs(newer, older)
        self.assertIsInstance(found, Run)
        self.assertEqual(found.rows, (("b", 1), ("c", 4), ("e", 5)))
        self.assertEqual(found.table, {"b": 1, "c": 4, "e": 5})
        self.assertEqual((newer.rows[0], older.rows[0]), (("a", None), ("a", 3)))
        self.assertEqual((len(newer.table), len(older.table)), (4, 4))
        self.assertEqual(joined_runs(Run((("a", None),)), Run((("a", 1),))).rows, ())


class Deeds(Checked):
    def test_new(self):
        engine = Engine(Disk())
        self.assertEqual((engine.memory, engine.runs), ({}, []))
        self.check_table(engine, {})
        for number in range(7):
            engine.put(f"k{number}", 1)
        self.assertEqual((len(engine.memory), engine.runs), (7, []))
        engine.put("k7", 1)
        self.assertEqual((engine.memory, len(engine.runs)), ({}, 1))
        for most in (0, -1):
            with self.assertRaises(TableError):
                Engine(Disk(), most)
            with self.assertRaises(TableError):
                engine_from(Disk(), most)

    def test_keys_that_are_none(self):
        engine = Engine(Disk(), 2)
        engine.put("a", 1)
        before = state(engine)
        for key in ("", None, 5, ("a",), True):
            with self.assertRaises(TableError):
                engine.put(key, 1)
            self.assertEqual(state(engine), before)

    def test_what_cannot_be_sent_changes_nothing(self):
        for most in (1, 3):
            engine = Engine(Disk(), most)
            engine.put("a", 1)
            before = state(engine)
            for key, value in (("%", 1), ("b", "%"), ("b", ("a", "%")), ("b", [1]), ("a", nested(31))):
                with self.assertRaises(WireError):
                    engine.put(key, value)
                self.assertEqual(state(engine), before)

    def test_deep_values(self):
        # What a record of the log can hold can stand in a run, too.
        for most in (1, 3):
            engine = Engine(Disk(), most)
            engine.put("a", nested(29))
            engine.sync()
            self.assertEqual(engine.value_of("a"), nested(29))
            self.assertEqual(come_up(engine, 0).value_of("a"), nested(29))
            engine.compact()
            self.assertEqual(come_up(engine, 0).value_of("a"), nested(29))

    def test_put(self):
        engine = Engine(Disk(), 3)
        self.assertIsNone(engine.put("b", 1))
        self.assertIsNone(engine.put("a", 2))
        self.assertIsNone(engine.put("b", 3))
        self.assertIsNone(engine.put("a", None))
        self.assertEqual((engine.memory, engine.runs), ({"b": 3, "a": None}, []))
        self.check_table(engine, {"b": 3})
        engine.put("c", None)
        self.assertEqual(engine.memory, {})
        self.assertEqual([run.rows for run in engine.runs], [(("a", None), ("b", 3), ("c", None))])
        self.check_table(engine, {"b": 3})
        engine.put("b", None)
        engine.put("c", False)
        self.check_table(engine, {"c": False})

    def test_steps(self):
        for most in (1, 2, 8):
            engine = Engine(Disk(), most)
            for at in range(most - 1):
                self.assertEqual(steps_of(engine, lambda: engine.put(KEYS[at], 1)), 1)
                self.assertEqual(engine.disk.syncs, 0)
                self.assertEqual(engine.disk.records(), [(KEYS[one], 1) for one in range(at + 1)])
            if most > 1:
                self.assertEqual(steps_of(engine, lambda: engine.put("a", 2)), 1)
            self.assertEqual(steps_of(engine, lambda: engine.put("zz", 1)), 2)
            # The log is empty, and nothing waits: a replacing keeps all at once.
            self.assertEqual((engine.disk.kept, engine.disk.waiting, engine.disk.syncs), ((), (), 1))
            self.assertEqual(len(engine.runs), 1)
            for work, syncs in ((engine.sync, 2), (engine.flush, 3), (engine.compact, 4)):
                self.assertEqual(steps_of(engine, work), 1)
                self.assertEqual(engine.disk.syncs, syncs)
            for work in (engine.sync, engine.flush, engine.compact):
                self.assertIsNone(work())

    def test_rows_written(self):
        engine = Engine(Disk(), 2)
        self.assertEqual(engine.written, 0)
        told = []
        for key in "aabcd":
            engine.put(key, 1)
            told.append(engine.written)
        # Each put is one row in the log, and all runs are kept again with each new one.
        self.assertEqual(told, [1, 2, 3 + 2, 6, 7 + 4])
        engine.put("a", None)
        engine.compact()
        self.assertEqual(engine.written, 12 + 3)

    def test_sync_keeps(self):
        engine = Engine(Disk(), 3)
        engine.put("a", 1)
        self.assertEqual((engine.disk.kept, engine.disk.waiting), ((), frame(("a", 1))))
        engine.sync()
        self.assertEqual((engine.disk.kept, engine.disk.waiting), (frame(("a", 1)), ()))
        self.assertEqual(engine.memory, {"a": 1})

    def test_at_most_four_runs(self):
        engine = Engine(Disk(), 1)
        for number in range(4):
            engine.put("a", number)
        engine.put("b", None)
        self.assertEqual([run.rows for run in engine.runs],
                         [(("b", None),), (("a", 3),), (("a", 2),), (("a", 1),)])
        engine.put("a", None)
        # The oldest takes part in a joining: only there dropped keys go.
        self.assertEqual([run.rows for run in engine.runs],
                         [(("a", None),), (("b", None),), (("a", 3),), (("a", 2),)])
        self.check_table(engine, {})
        engine.put("c", 1)
        engine.put("d", 1)
        self.assertEqual([run.rows for run in engine.runs],
                         [(("d", 1),), (("c", 1),), (("a", None),), (("a", 3),)])
        engine.put("e", 1)
        self.assertEqual([run.rows for run in engine.runs], [(("e", 1),), (("d", 1),), (("c", 1),), ()])
        self.check_table(engine, {"c": 1, "d": 1, "e": 1})

    def test_compact(self):
        engine = Engine(Disk(), 2)
        engine.compact()
        self.assertEqual((engine.memory, engine.runs), ({}, []))
        engine.flush()
        self.assertEqual((engine.memory, engine.runs), ({}, []))
        self.assertEqual(come_up(engine, 0).runs, [])
        engine.put("a", None)
        engine.compact()
        self.assertEqual((engine.memory, [run.rows for run in engine.runs]), ({}, [()]))
        engine.compact()
        self.assertEqual([run.rows for run in engine.runs], [()])
        self.assertEqual([run.rows for run in come_up(engine, 0).runs], [()])
        for key in "cbadc":
            engine.put(key, key + "1")
        engine.put("b", None)
        engine.put("e", 5)
        engine.compact()
        self.assertEqual([run.rows for run in engine.runs], [(("a", "a1"), ("c", "c1"), ("d", "d1"), ("e", 5))])
        self.assertEqual(engine.memory, {})
        self.check_table(engine, {"a": "a1", "c": "c1", "d": "d1", "e": 5})

    def test_by_words(self):
        draw = random.Random(1)
        for most in (1, 2, 3, 8):
            for _ in range(12):
                engine, model = Engine(Disk(), most), Model(most)
                for _ in range(70):
                    word = draw.choice(("put",) * 9 + ("flush", "compact", "sync"))
                    if word == "put":
                        told = (draw.choice(KEYS), draw.choice(VALUES))
                        engine.put(*told)
                        model.put(*told)
                    elif word == "sync":
                        engine.sync()
                    else:
                        getattr(engine, word)()
                        getattr(model, word)()
                    self.check_runs(engine, model)
                self.check_table(engine, model.table())
                before = state(engine)
                self.check_table(engine, model.table())
                self.assertEqual(state(engine), before)
                again = come_up(engine, 10 ** 9)
                self.check_runs(again, model)
                self.check_table(again, model.table())


class Down(Checked):
    def deed(self, engine, draw):
        """Do something drawn, and return the row that was put, or None."""
        word = draw.choice(("put",) * 8 + ("flush", "compact", "sync"))
        if word != "put":
            getattr(engine, word)()
            return None
        row = (draw.choice(KEYS[:6]), draw.choice(VALUES))
        self.last_row = row
        engine.put(*row)
        return row

    def run_once(self, seed):
        draw = random.Random(seed)
        most = draw.choice((1, 2, 3, 8))
        engine = Engine(Disk(), most)
        rows = []
        # So many of the rows surely stay.
        safe = crashes = 0
        for _ in range(60):
            if draw.random() < 0.3:
                engine.disk.arm(draw.choice((0, 1, 2, 3)))
            syncs = engine.disk.syncs
            self.last_row = None
            is_down = False
            try:
                row = self.deed(engine, draw)
                rows += [row] if row else []
            except StoreError:
                is_down = True
                self.assertIs(engine.disk.down, True)
                rows += [self.last_row] if self.last_row else []
            if engine.disk.syncs > syncs:
                safe = len(rows)
            if is_down or draw.random() < 0.1:
                crashes += 1
                engine.disk.arm(None)
                many = draw.choice((0, 1, draw.randrange(60), 10 ** 6))
                engine = come_up(engine, many, draw.choice((most, most, 1, 2, 5)))
                engine.most = most
                rows = self.check_some(engine, rows, safe, many >= 10 ** 6 and not is_down)
                safe = len(rows)
        engine.disk.arm(None)
        engine.sync()
        self.check_some(engine_from(engine.disk, most), rows, len(rows), True)
        return crashes

    def check_some(self, engine, rows, safe, is_all):
        """The engine has all rows up to some one, not before the safe ones; return these."""
        self.assertLessEqual(len(engine.runs), 4)
        found = []
        for many in range(safe, len(rows) + 1):
            table = {key: value for key, value in dict(rows[:many]).items() if value is not None}
            if engine.scan("", None) == tuple(sorted(table.items())):
                found.append(many)
        self.assertNotEqual(found, [])
        if is_all:
            self.assertIn(len(rows), found)
        many = found[-1]
        self.check_table(engine, {key: value for key, value in dict(rows[:many]).items() if value is not None})
        for run in engine.runs:
            self.assertEqual([key for key, _ in run.rows], sorted(dict(run.rows)))
        return rows[:many]

    def test_again_and_again(self):
        self.assertGreater(sum(self.run_once(seed) for seed in range(250)), 2000)

    def test_each_step_of_a_full_put(self):
        data = frame(("b", 2))
        for kept in range(len(frame(("a", 1)) + data) + 1):
            for fuse, has_b in ((0, False), (1, True)):
                engine = Engine(Disk(), 2)
                engine.put("a", 1)
                engine.disk.arm(fuse)
                with self.assertRaises(StoreError):
                    engine.put("b", 2)
                self.assertIs(engine.disk.down, True)
                again = come_up(engine, kept)
                table = {}
                if kept >= len(frame(("a", 1))):
                    table["a"] = 1
                if has_b and kept >= len(frame(("a", 1)) + data):
                    table["b"] = 2
                self.check_table(again, table)
                self.assertEqual((again.memory, again.runs), (table, []))
            engine = Engine(Disk(), 2)
            engine.put("a", 1)
            engine.disk.arm(2)
            engine.put("b", 2)
            with self.assertRaises(StoreError):
                engine.sync()
            self.assertEqual([run.rows for run in come_up(engine, kept).runs], [(("a", 1), ("b", 2))])

    def test_each_other_deed(self):
        for name in ("sync", "flush", "compact"):
            for many in (0, 10 ** 6):
                engine = Engine(Disk(), 2)
                for key in "abcde":
                    engine.put(key, 1)
                engine.disk.arm(0)
                with self.assertRaises(StoreError):
                    getattr(engine, name)()
                again = come_up(engine, many)
                self.assertEqual([run.rows for run in again.runs],
                                 [(("c", 1), ("d", 1)), (("a", 1), ("b", 1))])
                self.assertEqual(again.memory, {"e": 1} if many else {})

    def test_a_machine_that_is_down(self):
        engine = Engine(Disk(), 2)
        engine.disk.crash(0)
        for work in (lambda: engine.put("a", 1), engine.sync, engine.flush, engine.compact):
            with self.assertRaises(StoreError):
                work()
        self.assertEqual((engine.memory, engine.runs), ({}, []))

    def test_another_most(self):
        engine = Engine(Disk(), 8)
        for key in "abcde":
            engine.put(key, 1)
        engine.sync()
        again = come_up(engine, 0, 2)
        self.assertEqual((len(again.memory), again.runs, again.most), (5, [], 2))
        again.put("a", 2)
        self.assertEqual((again.memory, [len(run.rows) for run in again.runs]), ({}, [5]))
        again = come_up(again, 0, 3)
        again.put("a", 3)
        again.put("b", 3)
        self.assertEqual(len(again.memory), 2)
        self.check_table(again, {"a": 3, "b": 3, "c": 1, "d": 1, "e": 1})
        self.assertEqual(engine_from(Disk()).most, 8)


class Damaged(Checked):
    def test_without_anything(self):
        engine = engine_from(Disk())
        self.assertEqual((engine.memory, engine.runs), ({}, []))
        self.check_table(engine, {})

    def test_a_log_by_hand(self):
        disk = Disk()
        for record in (("b", 1), ("a", ("x",)), ("b", None), ("c", False)):
            disk.append(record)
        engine = engine_from(disk)
        self.assertEqual(engine.memory, {"b": None, "a": ("x",), "c": False})
        self.check_table(engine, {"a": ("x",), "c": False})

    def test_records_that_are_none(self):
        for record in (5, "ab", None, True, (), ("a",), ("a", 1, 2), (1, 2), ("", 1), (None, 1), (("a",), 1)):
            for before in ((), (("a", 1),)):
                disk = Disk()
                for one in before + (record,):
                    disk.append(one)
                with self.assertRaises(StoreError):
                    engine_from(disk)
                disk.sync()
                with self.assertRaises(StoreError):
                    engine_from(disk)

    def test_file_that_is_none(self):
        engine = Engine(Disk(), 2)
        for key in "abcde":
            engine.put(key, 1)
        (name, data), = engine.disk.files.items()
        for at in range(len(data)):
            for wrong in (data[:at], data[:at] + (data[at] ^ 1,) + data[at + 1:], data + data[:at + 1]):
                engine.disk.files[name] = wrong
                with self.assertRaises(StoreError):
                    engine_from(engine.disk)
        for value in (5, "ab", True, (1,), (1, "a"), (2, "a", 1), (-1,), ("a", 1), (1, "a", 1, 2), (1, 5, 1), (1, "", 1),
                      (None,), (0, 0, "a"), ((("a", 1),),)):
            engine.disk.files[name] = frame(value)
            with self.assertRaises(StoreError):
                engine_from(engine.disk)
        engine.disk.files[name] = data
        engine_from(engine.disk)


if __name__ == "__main__":
    unittest.main()
