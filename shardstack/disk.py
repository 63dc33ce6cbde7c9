"""Disk: what a machine keeps when it goes down: a file of records that grows, and files that are replaced whole."""

from shardstack.errors import StoreError
from shardstack.wire import frame, read_frames


class Disk:
    """Kept bytes of the record file, bytes that wait for a sync, whole files by name, and a fuse."""

    def __init__(self):
        self.kept = ()
        self.waiting = ()
        self.files = {}
        self.syncs = 0
        self.fuse = None
        self.down = False

    def arm(self, steps):
        """Let the machine go down at the step of its disk after so many more; None for never."""
        self.fuse = steps

    def step(self):
        """Use up one step; raise StoreError if the machine is down, or goes down at it."""
        if self.fuse is not None and self.fuse <= 0:
            self.down = True
        if self.down:
            raise StoreError("the machine is down")
        if self.fuse is not None:
            self.fuse = self.fuse - 1

    def append(self, value):
        """Add a record, which waits for a sync."""
        self.append_bytes(frame(value))

    def append_bytes(self, data):
        """Add the bytes of a record, which wait for a sync."""
        self.step()
        self.waiting = self.waiting + data

    def sync(self):
        """Keep all records."""
        self.step()
        self.kept = self.kept + self.waiting
        self.waiting = ()
        self.syncs = self.syncs + 1

    def records(self):
        """Return the records, whole ones alone."""
        found, _ = read_frames(self.kept + self.waiting)
        return found

    def replace(self, name, value, records):
        """Replace a whole file and all records, both at once; what waited is gone."""
        data = frame(value)
        kept = []
        for record in records:
            kept.extend(frame(record))
        self.step()
        self.files[name] = data
        self.kept = tuple(kept)
        self.waiting = ()
        self.syncs = self.syncs + 1

    def read_file(self, name):
        """Return the value of a whole file, None if there is none; raise StoreError for a damaged one."""
        if name not in self.files:
            return None
        found, many = read_frames(self.files[name])
        if len(found) != 1 or many != len(self.files[name]):
            raise StoreError("a file is damaged")
        return found[0]

    def crash(self, many):
        """Go down: so many of the bytes that waited are kept, the others are lost."""
        self.kept = self.kept + self.waiting[:max(0, many)]
        self.waiting = ()
        self.down = True

    def restart(self):
        """Come up again: what is no whole record at the end goes."""
        _, many = read_frames(self.kept)
        self.kept = self.kept[:many]
        self.fuse = None
        self.down = False
