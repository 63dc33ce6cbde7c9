"""Point [3]: what a disk keeps, steps, the fuse, a crash, coming up again."""

import unittest

from shardstack.disk import Disk
from shardstack.errors import StoreError, WireError
from shardstack.wire import frame


def state(disk):
    """Return all that a disk holds."""
    return disk.kept, disk.waiting, dict(disk.files), disk.syncs, disk.fuse, disk.down


class Steps(unittest.TestCase):
    def test_new(self):
        disk = Disk()
        self.assertEqual(state(disk), ((), (), {}, 0, None, False))
        self.assertEqual(disk.records(), [])
        self.assertIsNone(disk.read_file("image"))

    def test_append_and_sync(self):
        disk = Disk()
        self.assertIsNone(disk.append(("a", 1)))
        self.assertEqual((disk.kept, disk.waiting, disk.syncs), ((), frame(("a", 1)), 0))
        self.assertEqual(disk.records(), [("a", 1)])
        disk.append("b")
        self.assertEqual(disk.waiting, frame(("a", 1)) + frame("b"))
        self.assertIsNone(disk.sync())
        self.assertEqual((disk.kept, disk.waiting, disk.syncs), (frame(("a", 1)) + frame("b"), (), 1))
        disk.append(None)
        self.assertEqual(disk.records(), [("a", 1), "b", None])
        disk.sync()
        disk.sync()
        self.assertEqual(disk.syncs, 3)
        self.assertIsInstance(disk.records(), list)

    def test_replace(self):
        disk = Disk()
        disk.append("old")
        disk.sync()
        disk.append("waits")
        self.assertIsNone(disk.replace("image", (1, "x"), ["new", "newer"]))
        self.assertEqual(state(disk), (frame("new") + frame("newer"), (), {"image": frame((1, "x"))}, 2, None, False))
        self.assertEqual(disk.records(), ["new", "newer"])
        self.assertEqual(disk.read_file("image"), (1, "x"))
        self.assertIsNone(disk.read_file("other"))
        disk.replace("other", None, ())
        self.assertEqual(disk.records(), [])
        self.assertEqual(disk.read_file("image"), (1, "x"))
        disk.replace("image", "y", ("r",))
        self.assertEqual((disk.read_file("image"), disk.records(), disk.syncs), ("y", ["r"], 4))

    def test_what_cannot_be_sent_changes_nothing(self):
        disk = Disk()
        disk.append("a")
        disk.sync()
        disk.replace("image", 1, ["b"])
        disk.append("c")
        disk.arm(9)
        before = state(disk)
        for work in (lambda: disk.append("%"), lambda: disk.append([1]), lambda: disk.replace("image", "%", []),
                     lambda: disk.replace("image", 1, ["fine", ("%",)]), lambda: disk.replace("other", {}, ["fine"])):
            with self.assertRaises(WireError):
                work()
            self.assertEqual(state(disk), before)

    def test_damaged_file(self):
        for data in ((), frame(1)[:-1], frame(1) + (0,), frame(1) + frame(2), (0,) + frame(1)[1:] + (1,),
                     frame("ab")[:5] + (9,) + frame("ab")[6:]):
            disk = Disk()
            disk.files["image"] = data
            with self.assertRaises(StoreError):
                disk.read_file("image")
        disk = Disk()
        disk.files["image"] = frame(None)
        self.assertIsNone(disk.read_file("image"))


class Fuse(unittest.TestCase):
    WORK = (lambda disk: disk.append("a"), lambda disk: disk.sync(), lambda disk: disk.append("b"),
            lambda disk: disk.replace("image", "i", ["r"]), lambda disk: disk.append("c"), lambda disk: disk.sync())

    def test_just_so_many_steps(self):
        for many in range(len(self.WORK) + 1):
            whole = Disk()
            disk = Disk()
            self.assertIsNone(disk.arm(many))
            for step in self.WORK[:many]:
                step(disk)
                step(whole)
            self.assertFalse(disk.down)
            self.assertEqual(disk.fuse, 0)
            for step in self.WORK[many:] + self.WORK:
                with self.assertRaises(StoreError):
                    step(disk)
                self.assertTrue(disk.down)
                self.assertEqual(state(disk)[:4], state(whole)[:4])

    def test_fuse_goes_down_by_steps_alone(self):
        disk = Disk()
        disk.arm(3)
        disk.records()
        disk.read_file("image")
        self.assertEqual(disk.fuse, 3)
        disk.append("a")
        self.assertEqual(disk.fuse, 2)

    def test_never(self):
        disk = Disk()
        disk.arm(1)
        disk.arm(None)
        for _ in range(20):
            disk.append("a")
            disk.sync()
        self.assertEqual(len(disk.records()), 20)

    def test_armed_again(self):
        disk = Disk()
        disk.arm(0)
        disk.arm(2)
        disk.append("a")
        disk.sync()
        with self.assertRaises(StoreError):
            disk.append("b")


class Crashes(unittest.TestCase):
    def waiting_disk(self):
        disk = Disk()
        disk.append("kept")
        disk.sync()
        disk.append("first")
        disk.append(("second", 2))
        return disk

    def test_every_number_of_bytes(self):
        first = len(frame("first"))
        second = len(frame(("second", 2)))
        for many in range(first + second + 5):
            disk = self.waiting_disk()
            waiting = disk.waiting
            disk.arm(50)
            self.assertIsNone(disk.crash(many))
            self.assertTrue(disk.down)
            self.assertEqual((disk.kept, disk.waiting), (frame("kept") + waiting[:many], ()))
            whole = ["kept", "first", ("second", 2)][:1 + (many >= first) + (many >= first + second)]
            self.assertEqual(disk.records(), whole)
            for step in (lambda: disk.append("x"), disk.sync, lambda: disk.replace("image", 1, [])):
                with self.assertRaises(StoreError):
                    step()
            self.assertIsNone(disk.restart())
            self.assertFalse(disk.down)
            self.assertIsNone(disk.fuse)
            self.assertEqual(disk.kept, sum((frame(one) for one in whole), ()))
            disk.append("more")
            disk.sync()
            self.assertEqual(disk.records(), whole + ["more"])

    def test_again_and_again(self):
        disk = Disk()
        whole = []
        for number in range(12):
            disk.append(number)
            disk.sync()
            whole.append(number)
            disk.append("lost")
            disk.crash(number % len(frame("lost")))
            disk.restart()
            self.assertEqual(disk.records(), whole)
            disk.restart()
            self.assertEqual(disk.records(), whole)

    def test_a_file_and_its_records_stay(self):
        disk = self.waiting_disk()
        disk.replace("image", "i", ["r"])
        disk.append("lost")
        disk.crash(3)
        self.assertEqual((disk.read_file("image"), disk.records()), ("i", ["r"]))
        disk.restart()
        self.assertEqual((disk.read_file("image"), disk.records(), disk.kept), ("i", ["r"], frame("r")))

    def test_down_by_the_fuse_then_told_what_is_kept(self):
        for many, found in ((0, ["kept"]), (len(frame("first")), ["kept", "first"]),
                            (99, ["kept", "first", ("second", 2)])):
            disk = self.waiting_disk()
            disk.arm(0)
            with self.assertRaises(StoreError):
                disk.sync()
            disk.crash(many)
            disk.restart()
            self.assertEqual(disk.records(), found)

    def test_the_fuse_is_gone(self):
        disk = Disk()
        disk.arm(1)
        disk.append("a")
        with self.assertRaises(StoreError):
            disk.sync()
        disk.crash(0)
        disk.restart()
        for _ in range(5):
            disk.append("b")
            disk.sync()
        self.assertEqual(disk.records(), ["b"] * 5)


if __name__ == "__main__":
    unittest.main()
