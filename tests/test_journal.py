"""Point [4]: entries, the base, terms and votes, cuts, snapshots, and a journal that is read from its disk."""

import unittest

from shardstack.disk import Disk
from shardstack.errors import LogError, StoreError, WireError
from shardstack.journal import Entry, Journal, read_journal
from shardstack.wire import frame

NAMES = ("a", "b", "c")


def shown(journal):
    """Return all that a journal holds."""
    return (journal.term, journal.vote, journal.base, journal.base_term, journal.base_members, journal.image,
            [entry.shown() for entry in journal.entries])


def entries(*rows):
    """Return entries of (term, command) rows."""
    return tuple(Entry(term, command) for term, command in rows)


def filled(many, terms=1):
    """Return a journal with entries whose terms rise after each so many."""
    journal = Journal(Disk(), NAMES)
    journal.set_term(1 + many // terms, "a")
    for number in range(1, many + 1):
        journal.add(entries((1 + (number - 1) // terms, ("x", number))))
    return journal


class Entries(unittest.TestCase):
    def test_entry(self):
        entry = Entry(3, ("put", "a", "b"))
        self.assertEqual((entry.term, entry.command, entry.shown()), (3, ("put", "a", "b"), (3, ("put", "a", "b"))))

    def test_new(self):
        disk = Disk()
        journal = Journal(disk, NAMES)
        self.assertEqual(shown(journal), (0, None, 0, 0, NAMES, None, []))
        self.assertIs(journal.disk, disk)
        self.assertEqual((journal.last(), journal.last_term(), journal.term_at(0)), (0, 0, 0))
        self.assertEqual((journal.after(0, 5), journal.members(), journal.members_at(0)), ((), NAMES, NAMES))
        for work in (lambda: journal.entry(0), lambda: journal.entry(1), lambda: journal.term_at(1),
                     lambda: journal.term_at(-1), lambda: journal.after(1, 1), lambda: journal.after(-1, 1)):
            with self.assertRaises(LogError):
                work()
        self.assertEqual(state_of(disk), ([], None, 0))

    def test_with_entries(self):
        journal = filled(4, 2)
        self.assertEqual((journal.last(), journal.last_term()), (4, 2))
        self.assertEqual([journal.term_at(number) for number in range(5)], [0, 1, 1, 2, 2])
        self.assertEqual([journal.entry(number).shown() for number in range(1, 5)],
                         [(1, ("x", 1)), (1, ("x", 2)), (2, ("x", 3)), (2, ("x", 4))])
        for number in (-1, 0, 5):
            with self.assertRaises(LogError):
                journal.entry(number)
        for number in (-1, 5):
            with self.assertRaises(LogError):
                journal.term_at(number)

    def test_after(self):
        journal = filled(4)
        for number in range(5):
            for many in range(7):
                found = journal.after(number, many)
                self.assertIsInstance(found, tuple)
                self.assertEqual([entry.command for entry in found],
                                 [("x", at) for at in range(number + 1, min(4, number + many) + 1)])
        for number in (-1, 5, 9):
            with self.assertRaises(LogError):
                journal.after(number, 1)

    def test_after_a_snapshot(self):
        journal = filled(6, 2)
        journal.take_image(4, ("image",))
        self.assertEqual((journal.base, journal.base_term, journal.image, journal.last()), (4, 2, ("image",), 6))
        self.assertEqual([journal.term_at(number) for number in (4, 5, 6)], [2, 3, 3])
        self.assertEqual(journal.entry(5).command, ("x", 5))
        self.assertEqual([entry.command for entry in journal.after(4, 9)], [("x", 5), ("x", 6)])
        self.assertEqual(journal.after(6, 9), ())
        for number in (0, 3, 7):
            with self.assertRaises(LogError):
                journal.term_at(number)
            with self.assertRaises(LogError):
                journal.after(number, 1)
        for number in (3, 4, 7):
            with self.assertRaises(LogError):
                journal.entry(number)
        journal.take_image(6, ("later",))
        self.assertEqual((journal.last(), journal.last_term(), journal.entries), (6, 3, []))

    def test_same_after(self):
        journal = filled(4, 2)
        same = ((1, ("x", 1)), (1, ("x", 2)), (2, ("x", 3)), (2, ("x", 4)))
        for number in range(5):
            for many in range(5):
                self.assertEqual(journal.same_after(number, entries(*same[number:number + many])),
                                 len(same[number:number + many]))
        self.assertEqual(journal.same_after(0, entries(*same, (2, ("x", 5)))), 4)
        self.assertEqual(journal.same_after(2, entries((2, ("x", 3)), (3, ("x", 4)), (3, ("x", 5)))), 1)
        self.assertEqual(journal.same_after(1, entries((2, ("y",)), (2, ("x", 3)))), 0)
        self.assertEqual(journal.same_after(4, entries((2, ("x", 5)))), 0)
        self.assertEqual(journal.same_after(4, ()), 0)
        journal.take_image(2, "i")
        self.assertEqual(journal.same_after(2, entries((2, ("x", 3)), (2, ("x", 4)))), 2)
        self.assertEqual(Journal(Disk(), NAMES).same_after(0, entries((1, ("a",)))), 0)


def state_of(disk):
    """Return the records of a disk, its snapshot, and how many syncs it did."""
    return disk.records(), disk.read_file("image"), disk.syncs


class Terms(unittest.TestCase):
    def test_set_term(self):
        journal = Journal(Disk(), NAMES)
        self.assertIsNone(journal.set_term(1, None))
        journal.set_term(1, "b")
        journal.set_term(1, "b")
        self.assertEqual((journal.term, journal.vote), (1, "b"))
        for term, vote in ((1, "a"), (1, None), (0, None), (0, "b"), (-1, "b")):
            before = shown(journal), journal.disk.kept
            with self.assertRaises(LogError):
                journal.set_term(term, vote)
            self.assertEqual((shown(journal), journal.disk.kept), before)
        journal.set_term(4, "a")
        journal.set_term(5, None)
        journal.set_term(5, None)
        self.assertEqual((journal.term, journal.vote), (5, None))
        with self.assertRaises(LogError):
            journal.set_term(4, "a")

    def test_the_same_when_read_again(self):
        journal = Journal(Disk(), NAMES)
        for term, vote in ((1, None), (1, "c"), (3, "a")):
            journal.set_term(term, vote)
            found = read_journal(journal.disk, NAMES)
            self.assertEqual((found.term, found.vote), (term, vote))
        with self.assertRaises(LogError):
            found.set_term(3, "b")
        with self.assertRaises(LogError):
            found.set_term(3, None)
        with self.assertRaises(LogError):
            found.set_term(2, "a")
        found.set_term(3, "a")
        found.set_term(4, "b")
        self.assertEqual(read_journal(journal.disk, NAMES).vote, "b")

    def test_records(self):
        journal = Journal(Disk(), NAMES)
        journal.set_term(2, None)
        journal.set_term(2, "b")
        self.assertEqual(journal.disk.kept, frame(("term", 2, None)) + frame(("term", 2, "b")))
        self.assertEqual(journal.disk.waiting, ())


class Changes(unittest.TestCase):
    def test_add(self):
        journal = Journal(Disk(), NAMES)
        self.assertIsNone(journal.add(entries((1, ("a",)), (1, ("b", "c")))))
        journal.add(entries((2, ("d",))))
        self.assertEqual(shown(journal)[6], [(1, ("a",)), (1, ("b", "c")), (2, ("d",))])
        self.assertEqual(journal.disk.kept,
                         frame(("entry", 1, 1, ("a",))) + frame(("entry", 2, 1, ("b", "c")))
                         + frame(("entry", 3, 2, ("d",))))
        self.assertIsInstance(journal.entry(2), Entry)

    def test_add_what_cannot_be_sent(self):
        journal = filled(1)
        before = shown(journal), state_of(journal.disk), journal.disk.waiting
        for rows in (((1, ("%",)),), ((1, ("fine",)), (1, ("put", [])))):
            with self.assertRaises(WireError):
                journal.add(entries(*rows))
            self.assertEqual((shown(journal), state_of(journal.disk), journal.disk.waiting), before)

    def test_cut(self):
        journal = filled(5)
        self.assertIsNone(journal.cut(4))
        self.assertEqual((journal.last(), journal.disk.records()[-1]), (3, ("cut", 4)))
        journal.add(entries((3, ("new",))))
        self.assertEqual(journal.entry(4).shown(), (3, ("new",)))
        self.assertEqual(shown(read_journal(journal.disk, NAMES)), shown(journal))
        for number in (0, -1):
            with self.assertRaises(LogError):
                journal.cut(number)
        journal.cut(1)
        self.assertEqual(journal.entries, [])
        self.assertEqual(shown(read_journal(journal.disk, NAMES)), shown(journal))

    def test_cut_behind_the_last(self):
        journal = filled(2)
        journal.cut(3)
        journal.cut(9)
        self.assertEqual(journal.last(), 2)
        self.assertEqual(shown(read_journal(journal.disk, NAMES)), shown(journal))

    def test_cut_after_a_snapshot(self):
        journal = filled(5)
        journal.take_image(3, "i")
        before = shown(journal), state_of(journal.disk)
        for number in (3, 2, 1, 0):
            with self.assertRaises(LogError):
                journal.cut(number)
        self.assertEqual((shown(journal), state_of(journal.disk)), before)
        journal.cut(4)
        self.assertEqual((journal.last(), journal.last_term()), (3, 3))
        self.assertEqual(shown(read_journal(journal.disk, NAMES)), shown(journal))

    def test_take_image(self):
        journal = filled(4, 2)
        self.assertIsNone(journal.take_image(3, ("all", 3)))
        self.assertEqual(shown(journal), (3, "a", 3, 2, NAMES, ("all", 3), [(2, ("x", 4))]))
        self.assertEqual(journal.disk.read_file("image"), (3, 2, NAMES, ("all", 3)))
        self.assertEqual(journal.disk.records(), [("term", 3, "a"), ("entry", 4, 2, ("x", 4))])
        self.assertEqual(shown(read_journal(journal.disk, ())), shown(journal))
        for number in (-1, 0, 2, 5):
            before = shown(journal), state_of(journal.disk)
            with self.assertRaises(LogError):
                journal.take_image(number, "i")
            self.assertEqual((shown(journal), state_of(journal.disk)), before)
        with self.assertRaises(WireError):
            journal.take_image(4, "%")
        self.assertEqual((shown(journal), state_of(journal.disk)), before)

    def test_take_image_at_the_base(self):
        for journal in (Journal(Disk(), NAMES), filled(4, 2)):
            base = journal.last() // 2
            journal.install(base, journal.term_at(base), ("a", "b"), "old")
            before = shown(journal), journal.disk.records()
            journal.take_image(base, ("new", base))
            self.assertEqual(journal.disk.read_file("image"), (base, journal.base_term, ("a", "b"), ("new", base)))
            self.assertEqual(shown(read_journal(journal.disk, NAMES)), shown(journal))
            self.assertEqual(journal.image, ("new", base))
            journal.image = "old"
            self.assertEqual((shown(journal), journal.disk.records()), before)
            for number in (base - 1, journal.last() + 1):
                with self.assertRaises(LogError):
                    journal.take_image(number, "i")

    def test_install_with_entries_that_follow_the_same_one(self):
        journal = filled(4, 2)
        self.assertIsNone(journal.install(2, 1, ("a", "b"), "there"))
        self.assertEqual(shown(journal), (3, "a", 2, 1, ("a", "b"), "there", [(2, ("x", 3)), (2, ("x", 4))]))
        self.assertEqual(journal.disk.read_file("image"), (2, 1, ("a", "b"), "there"))
        self.assertEqual(journal.disk.records(),
                         [("term", 3, "a"), ("entry", 3, 2, ("x", 3)), ("entry", 4, 2, ("x", 4))])
        journal.install(2, 1, ("a", "b"), "again")
        self.assertEqual((journal.image, journal.last()), ("again", 4))
        journal.install(4, 2, NAMES, "all")
        self.assertEqual((journal.base, journal.entries), (4, []))
        self.assertEqual(shown(read_journal(journal.disk, ())), shown(journal))

    def test_install_with_others(self):
        journal = filled(4, 2)
        journal.install(3, 7, ("z",), "other")
        self.assertEqual(shown(journal), (3, "a", 3, 7, ("z",), "other", []))
        self.assertEqual(journal.disk.records(), [("term", 3, "a")])
        self.assertEqual(shown(read_journal(journal.disk, NAMES)), shown(journal))

    def test_install_with_none(self):
        for journal in (Journal(Disk(), ()), filled(4)):
            journal.install(9, 5, NAMES, ("far",))
            self.assertEqual(shown(journal)[2:], (9, 5, NAMES, ("far",), []))
            self.assertEqual((journal.last(), journal.last_term()), (9, 5))
            journal.add(entries((5, ("next",))))
            self.assertEqual(journal.entry(10).command, ("next",))
            self.assertEqual(shown(read_journal(journal.disk, ())), shown(journal))


class Members(unittest.TestCase):
    def journal(self):
        journal = Journal(Disk(), NAMES)
        journal.add(entries((1, ("nothing",)), (1, ("members", ("a", "b"))), (1, ("x",)),
                            (2, ("members", ("a", "b", "d"))), (2, ("y",))))
        return journal

    def test_members(self):
        journal = self.journal()
        self.assertEqual(journal.members(), ("a", "b", "d"))
        self.assertEqual([journal.members_at(number) for number in range(6)],
                         [NAMES, NAMES, ("a", "b"), ("a", "b"), ("a", "b", "d"), ("a", "b", "d")])
        self.assertEqual(journal.base_members, NAMES)

    def test_after_a_cut(self):
        journal = self.journal()
        journal.cut(4)
        self.assertEqual(journal.members(), ("a", "b"))
        journal.cut(2)
        self.assertEqual(journal.members(), NAMES)

    def test_under_a_snapshot(self):
        journal = self.journal()
        journal.take_image(3, "i")
        self.assertEqual((journal.base_members, journal.members()), (("a", "b"), ("a", "b", "d")))
        self.assertEqual((journal.members_at(3), journal.members_at(4)), (("a", "b"), ("a", "b", "d")))
        journal.cut(4)
        self.assertEqual(journal.members(), ("a", "b"))
        self.assertEqual(shown(read_journal(journal.disk, NAMES)), shown(journal))
        journal.install(8, 3, ("q",), "j")
        self.assertEqual((journal.members(), journal.members_at(8)), (("q",), ("q",)))

    def test_read_again(self):
        journal = self.journal()
        found = read_journal(journal.disk, NAMES)
        self.assertEqual((found.members(), found.base_members), (("a", "b", "d"), NAMES))
        journal.take_image(5, "i")
        self.assertEqual(read_journal(journal.disk, NAMES).members(), ("a", "b", "d"))


class Crashes(unittest.TestCase):
    CHANGES = (
        lambda journal: journal.set_term(9, "b"),
        lambda journal: journal.add(entries((4, ("one",)))),
        lambda journal: journal.add(entries((4, ("one",)), (4, ("two",)), (5, ("members", ("z",))), (5, ("four",)))),
        lambda journal: journal.cut(5),
        lambda journal: journal.take_image(5, ("image", 5)),
        lambda journal: journal.take_image(3, ("image", "again")),
        lambda journal: journal.install(5, 3, ("a", "z"), "same"),
        lambda journal: journal.install(5, 8, ("a", "z"), "other"),
        lambda journal: journal.install(12, 8, ("a", "z"), "far"),
    )

    def journal(self):
        journal = filled(6, 2)
        journal.take_image(3, ("image", 3))
        journal.add(entries((3, ("x", 7))))
        return journal

    def check(self, change, steps, many):
        """Let the machine go down at a step, keep so many bytes, and look at the journal that comes up."""
        journal = self.journal()
        before = shown(journal)
        changed = self.journal()
        change(changed)
        after = shown(changed)
        disk = journal.disk
        disk.arm(steps)
        try:
            change(journal)
            done = True
        except StoreError:
            done = False
        waited = len(disk.waiting)
        disk.crash(many if many >= 0 else waited // 2)
        disk.restart()
        found = read_journal(disk, NAMES)
        allowed = [after] if done else [before, after]
        if len(after[6]) > len(before[6]) and not done:
            allowed += [before[:6] + (after[6][:many],) for many in range(len(before[6]), len(after[6]))]
        self.assertIn(shown(found), allowed)
        return found, done

    def test_each_step_of_each_change(self):
        for change in self.CHANGES:
            for steps in range(8):
                for many in (0, 1, -1, 20, 40, 80, 10 ** 6):
                    found, done = self.check(change, steps, many)
                    self.go_on(found)
            self.assertTrue(done)

    def go_on(self, journal):
        """Let a journal that came up go on working."""
        journal.set_term(journal.term + 20, "c")
        journal.add(entries((journal.term, ("more",)), (journal.term, ("still more",))))
        self.assertEqual(shown(read_journal(journal.disk, NAMES)), shown(journal))
        journal.cut(journal.last())
        journal.take_image(journal.last(), "end")
        self.assertEqual(shown(read_journal(journal.disk, NAMES)), shown(journal))

    def test_nothing_changes_in_memory_before_it_is_kept(self):
        for change in self.CHANGES:
            for steps in range(2):
                journal = self.journal()
                before = shown(journal)
                journal.disk.arm(steps)
                try:
                    change(journal)
                except StoreError:
                    self.assertEqual(shown(journal), before)
                    self.assertTrue(journal.disk.down)


class Reading(unittest.TestCase):
    def test_empty(self):
        self.assertEqual(shown(read_journal(Disk(), NAMES)), (0, None, 0, 0, NAMES, None, []))
        self.assertEqual(read_journal(Disk(), ()).members(), ())

    def disk(self, records, image=None):
        disk = Disk()
        if image is not None:
            disk.replace("image", image, [])
        for record in records:
            disk.append(record)
        disk.sync()
        return disk

    def test_records_that_follow_each_other(self):
        records = (("term", 1, None), ("entry", 1, 1, ("a",)), ("entry", 2, 1, ("b",)), ("term", 1, "a"), ("cut", 2),
                   ("entry", 2, 3, ("c",)), ("term", 4, None))
        journal = read_journal(self.disk(records), NAMES)
        self.assertEqual(shown(journal), (4, None, 0, 0, NAMES, None, [(1, ("a",)), (3, ("c",))]))

    def test_an_image_and_records_behind_it(self):
        records = (("term", 7, "b"), ("entry", 6, 7, ("a",)), ("entry", 7, 7, ("b",)))
        journal = read_journal(self.disk(records, (5, 6, ("a", "q"), ("all",))), NAMES)
        self.assertEqual(shown(journal), (7, "b", 5, 6, ("a", "q"), ("all",), [(7, ("a",)), (7, ("b",))]))

    def test_records_that_do_not(self):
        for records in ((("entry", 2, 1, ("a",)),), (("entry", 0, 1, ("a",)),),
                        (("entry", 1, 1, ("a",)), ("entry", 1, 1, ("b",))),
                        (("entry", 1, 1, ("a",)), ("entry", 3, 1, ("b",))), (("cut", 0),),
                        (("entry", 1, 1, ("a",)), ("cut", 1), ("entry", 2, 1, ("a",))),
                        (("term", 3, None), ("term", 2, None)), (("term", 3, "a"), ("term", 3, "b")),
                        (("term", 3, "a"), ("term", 3, None)), (("other", 1),), (7,), ((),), ("term",), (("term", 1),),
                        (("entry", 1, 1),), (None,), (("other", 1, 1, ("a",)),), (("term", 1, None, 1),), (("entry",),),
                        (("entry", 1, 1, ("a",)), ("cut", 1, 2)), (("term", "1", None),), (("cut", "1"),),
                        (("entry", None, 1, ("a",)),), (("entry", 1, 1, ("a",)), ("other", 1))):
            with self.assertRaises(StoreError):
                read_journal(self.disk(records), NAMES)

    def test_records_that_do_not_follow_an_image(self):
        for records in ((("entry", 1, 1, ("a",)),), (("entry", 5, 1, ("a",)),), (("entry", 7, 1, ("a",)),),
                        (("cut", 5),), (("cut", 4),)):
            with self.assertRaises(StoreError):
                read_journal(self.disk(records, (5, 1, NAMES, None)), NAMES)

    def test_damaged_image(self):
        disk = self.disk(())
        disk.files["image"] = frame((5, 1, NAMES, None))[:-1]
        with self.assertRaises(StoreError):
            read_journal(disk, NAMES)

    def test_an_image_of_another_form(self):
        for image in (7, "image", (), (5, 1, NAMES), (5, 1, NAMES, None, None)):
            with self.assertRaises(StoreError):
                read_journal(self.disk((), image), NAMES)

    def test_a_disk_that_is_down(self):
        journal = filled(3)
        journal.disk.append(("entry", 4, 9, ("waits",)))
        journal.disk.crash(5)
        before = journal.disk.kept
        self.assertEqual(shown(read_journal(journal.disk, NAMES)), shown(journal))
        self.assertEqual(journal.disk.kept, before)


if __name__ == "__main__":
    unittest.main()
