"""Point [25]: steps that are all done, or all undone, wherever the machine goes down."""

import random
import unittest

from shardstack.disk import Disk
from shardstack.errors import QueueError, StoreError, WireError
from shardstack.workflows import Workflow

STEPS = ("pay", "book", "send")


def disk_with(*rows):
    disk = Disk()
    for row in rows:
        disk.append(row)
    disk.sync()
    return disk


class World:
    """What doers and undoers did: who know what they did do each once."""

    def __init__(self, fails=()):
        self.fails = fails
        self.asked = []
        self.done = []
        self.undone = []

    def do(self, step):
        self.asked.append(("do", step))
        if step in self.fails:
            return False
        if step not in self.done:
            self.done.append(step)
        return True

    def undo(self, step):
        self.asked.append(("undo", step))
        if step not in self.undone:
            self.undone.append(step)


class Beginning(unittest.TestCase):
    def test_steps(self):
        for steps in ((), ("a", "a"), ("a", "b", "a"), []):
            with self.assertRaises(QueueError):
                Workflow(Disk(), steps)
        workflow = Workflow(Disk(), ["a"])
        self.assertEqual(workflow.rows, [])
        self.assertIs(type(workflow.rows), list)
        self.assertIsNone(workflow.end())

    def test_steps_are_told_as_lists(self):
        steps = ["b", "a"]
        workflow = Workflow(Disk(), steps)
        world = World()
        self.assertEqual(workflow.go(world.do, world.undo), "done")
        self.assertEqual(world.done, ["b", "a"])
        self.assertEqual(steps, ["b", "a"])

    def test_rows_that_are_none(self):
        for row in (("begun", "a", 1), ("begun",), (), ("start", "a"), ("begun", "other"), ("a", "begun"), "begun", "ab",
                    5, None, True, (None, None), ("begun", None), (("begun", "a"), ("begun", "a"))):
            for before in ((), (("begun", "a"),)):
                with self.assertRaises(QueueError, msg=row):
                    Workflow(disk_with(*before, row), ("a", "b"))
        for word in ("begun", "done", "failed", "undone"):
            self.assertEqual(Workflow(disk_with((word, "b")), ("a", "b")).rows, [(word, "b")])

    def test_rows_of_the_disk(self):
        rows = [("begun", "a"), ("done", "a"), ("begun", "b")]
        workflow = Workflow(disk_with(*rows), ("a", "b"))
        self.assertEqual(workflow.rows, rows)


class Noting(unittest.TestCase):
    def test_note(self):
        disk = Disk()
        workflow = Workflow(disk, STEPS)
        self.assertIsNone(workflow.note("begun", "pay"))
        self.assertEqual((workflow.rows, disk.records(), disk.waiting, disk.syncs),
                         ([("begun", "pay")], [("begun", "pay")], (), 1))
        workflow.note("done", "pay")
        self.assertEqual(workflow.rows, [("begun", "pay"), ("done", "pay")])
        self.assertEqual(disk.records(), workflow.rows)

    def test_going_down(self):
        for fuse in (0, 1):
            for kept in (0, 5, 1000):
                disk = disk_with(("begun", "pay"))
                workflow = Workflow(disk, STEPS)
                disk.arm(fuse)
                with self.assertRaises(StoreError):
                    workflow.note("done", "pay")
                self.assertIs(disk.down, True)
                self.assertEqual(workflow.rows, [("begun", "pay")])
                disk.crash(kept)
                disk.restart()
                rows = [("begun", "pay")] + [("done", "pay")] * (fuse == 1 and kept == 1000)
                self.assertEqual(Workflow(disk, STEPS).rows, rows)

    def test_what_cannot_be_sent_changes_nothing(self):
        disk = Disk()
        workflow = Workflow(disk, ("a", "5%"))
        with self.assertRaises(WireError):
            workflow.note("begun", "5%")
        self.assertEqual((workflow.rows, disk.kept, disk.waiting), ([], (), ()))

    def test_state_of(self):
        workflow = Workflow(Disk(), STEPS)
        told = []
        for word, step in (("begun", "pay"), ("done", "pay"), ("begun", "book"), ("failed", "book"), ("undone", "book")):
            workflow.note(word, step)
            told.append([workflow.state_of(one) for one in STEPS])
        self.assertEqual(told, [["begun", None, None], ["done", None, None], ["done", "begun", None],
                                ["done", "failed", None], ["done", "undone", None]])
        self.assertIsNone(workflow.state_of("other"))

    def test_end(self):
        rows = [("begun", "pay"), ("done", "pay"), ("begun", "book"), ("done", "book"), ("begun", "send")]
        for many in range(len(rows) + 1):
            self.assertIsNone(Workflow(disk_with(*rows[:many]), STEPS).end())
        self.assertEqual(Workflow(disk_with(*rows, ("done", "send")), STEPS).end(), "done")
        failed = rows + [("failed", "send"), ("undone", "send"), ("undone", "book"), ("undone", "pay")]
        for many in range(len(rows) + 1, len(failed)):
            self.assertIsNone(Workflow(disk_with(*failed[:many]), STEPS).end())
        self.assertEqual(Workflow(disk_with(*failed), STEPS).end(), "undone")
        self.assertEqual(Workflow(disk_with(("begun", "pay"), ("failed", "pay"), ("undone", "pay")), STEPS).end(), "undone")
        # Nothing failed.
        self.assertIsNone(Workflow(disk_with(("begun", "pay"), ("undone", "pay")), STEPS).end())


class Going(unittest.TestCase):
    def test_done(self):
        disk, world = Disk(), World()
        workflow = Workflow(disk, STEPS)
        self.assertEqual(workflow.go(world.do, world.undo), "done")
        self.assertEqual(world.asked, [("do", step) for step in STEPS])
        self.assertEqual(workflow.rows, [(word, step) for step in STEPS for word in ("begun", "done")])
        self.assertEqual(disk.records(), workflow.rows)
        self.assertEqual((disk.syncs, disk.waiting), (6, ()))
        # At the end nothing is asked for any more.
        for again in (workflow, Workflow(disk, STEPS)):
            self.assertEqual((again.end(), again.go(None, None)), ("done", "done"))

    def test_fails_at_each_step(self):
        for at, fails in enumerate(STEPS):
            disk, world = Disk(), World((fails,))
            workflow = Workflow(disk, STEPS)
            self.assertEqual(workflow.go(world.do, world.undo), "undone")
            begun = STEPS[:at + 1]
            self.assertEqual(world.asked, [("do", step) for step in begun] + [("undo", step) for step in reversed(begun)])
            rows = [(word, step) for step in STEPS[:at] for word in ("begun", "done")] + [("begun", fails), ("failed", fails)]
            self.assertEqual(workflow.rows, rows + [("undone", step) for step in reversed(begun)])
            self.assertEqual(disk.records(), workflow.rows)
            self.assertEqual(Workflow(disk, STEPS).go(None, None), "undone")

    def test_rows_are_kept_before_and_behind(self):
        disk = Disk()
        workflow = Workflow(disk, STEPS)
        seen = []

        def look(step):
            seen.append((step, disk.records()[-1], disk.waiting))
            return step != "send"

        workflow.go(look, look)
        self.assertEqual(seen, [
            ("pay", ("begun", "pay"), ()), ("book", ("begun", "book"), ()), ("send", ("begun", "send"), ()),
            ("send", ("failed", "send"), ()), ("book", ("undone", "send"), ()), ("pay", ("undone", "book"), ())])

    def test_goes_on(self):
        world = World()
        workflow = Workflow(disk_with(("begun", "pay"), ("done", "pay"), ("begun", "book")), STEPS)
        self.assertEqual(workflow.go(world.do, world.undo), "done")
        self.assertEqual(world.asked, [("do", "book"), ("do", "send")])
        # It was begun already: no row for that once more.
        self.assertEqual(workflow.rows[2:], [("begun", "book"), ("done", "book"), ("begun", "send"), ("done", "send")])

    def test_goes_on_undoing(self):
        world = World()
        rows = [("begun", "pay"), ("done", "pay"), ("begun", "book"), ("done", "book"), ("begun", "send"),
                ("failed", "send"), ("undone", "send")]
        workflow = Workflow(disk_with(*rows), STEPS)
        self.assertEqual(workflow.go(world.do, world.undo), "undone")
        self.assertEqual(world.asked, [("undo", "book"), ("undo", "pay")])
        self.assertEqual(workflow.rows, rows + [("undone", "book"), ("undone", "pay")])

    def test_one_that_has_failed_is_not_asked_for_again(self):
        world = World()
        workflow = Workflow(disk_with(("begun", "pay"), ("failed", "pay")), STEPS)
        self.assertEqual(workflow.go(world.do, world.undo), "undone")
        self.assertEqual(world.asked, [("undo", "pay")])

    def test_a_doer_that_goes_down(self):
        disk = Disk()
        workflow = Workflow(disk, STEPS)

        def go_down(step):
            raise StoreError("the machine is down")

        with self.assertRaises(StoreError):
            workflow.go(go_down, None)
        self.assertEqual(workflow.rows, [("begun", "pay")])


class Down(unittest.TestCase):
    def run_with(self, steps, fails, fuses, kept):
        """Go on again and again, the machine going down by fuses, and return the world and the last workflow."""
        disk, world = Disk(), World(fails)
        for fuse in fuses:
            workflow = Workflow(disk, steps)
            disk.arm(fuse)
            try:
                workflow.go(world.do, world.undo)
            except StoreError:
                self.assertIs(disk.down, True)
                disk.crash(kept())
                disk.restart()
            disk.arm(None)
        workflow = Workflow(disk, steps)
        end = workflow.go(world.do, world.undo)
        self.assertEqual(end, "undone" if fails else "done")
        self.assertEqual(workflow.rows, disk.records())
        self.check(world, workflow, steps, fails)
        return world

    def check(self, world, workflow, steps, fails):
        if not fails:
            self.assertEqual((world.done, world.undone), (list(steps), []))
            self.assertEqual(workflow.rows, [(word, step) for step in steps for word in ("begun", "done")])
            return
        begun = steps[:steps.index(fails[0]) + 1]
        self.assertEqual(world.done, list(begun[:-1]))
        self.assertEqual(world.undone, list(reversed(begun)))
        self.assertEqual(workflow.rows[-len(begun):], [("undone", step) for step in reversed(begun)])
        # All that is asked for again comes at once behind the first time.
        order = [("do", step) for step in begun] + [("undo", step) for step in reversed(begun)]
        self.assertEqual([one for at, one in enumerate(world.asked) if one not in world.asked[:at]], order)
        self.assertEqual(world.asked, sorted(world.asked, key=order.index))

    def test_each_step_of_the_disk(self):
        for fails in ((), ("pay",), ("book",), ("send",)):
            for fuse in range(26):
                for kept in (0, 3, 10 ** 6):
                    self.run_with(STEPS, fails, [fuse], lambda: kept)

    def test_again_and_again(self):
        for fails in ((), ("pay",), ("book",), ("send",)):
            for fuse in range(4):
                for kept in (0, 7, 10 ** 6):
                    self.run_with(STEPS, fails, [fuse] * 30, lambda: kept)
        for seed in range(150):
            draw = random.Random(seed)
            steps = tuple(draw.sample("abcdefg", draw.randint(1, 7)))
            fails = (draw.choice(steps),) if draw.random() < 0.6 else ()
            fuses = [draw.choice((0, 1, 2, 3, 5, 9)) for _ in range(draw.randrange(20))]
            self.run_with(steps, fails, fuses, lambda: draw.choice((0, draw.randrange(30), 10 ** 6)))

    def test_asked_for_again(self):
        # It was asked for, but the row behind it was lost.
        world = self.run_with(("a",), (), [2], lambda: 0)
        self.assertEqual(world.asked, [("do", "a"), ("do", "a")])
        world = self.run_with(("a",), (), [3], lambda: 10 ** 6)
        self.assertEqual(world.asked, [("do", "a")])
        world = self.run_with(("a",), ("a",), [4], lambda: 0)
        self.assertEqual(world.asked, [("do", "a"), ("undo", "a"), ("undo", "a")])


if __name__ == "__main__":
    unittest.main()
