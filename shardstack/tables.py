"""Tables: versions with indexes, followers who hear of each change once, and backups of any time."""

from shardstack.errors import TableError
from shardstack.versions import Versions, is_key, is_within
from shardstack.wire import frame, read_frames

MARK = "shards"


class Index:
    """A name, the place of a field in values that are rows, whether a field has one key alone, and keys by field."""

    def __init__(self, name, place, single):
        self.name = name
        self.place = place
        self.single = single
        self.by_field = {}

    def field(self, value):
        """Return a value's field, None for a value without one."""
        if isinstance(value, tuple) and self.place < len(value):
            return value[self.place]
        return None

    def move(self, key, old, new):
        """Take a key's change into account."""
        before = self.field(old)
        after = self.field(new)
        if before is not None:
            self.put_keys(before, self.others(before, key))
        if after is not None:
            self.put_keys(after, self.others(after, key) + [key])

    def others(self, field, key):
        """Return the keys of a field but one."""
        return [one for one in self.by_field.get(field, []) if one != key]

    def put_keys(self, field, keys):
        """Put the keys of a field; one without keys is not there."""
        if keys == []:
            self.by_field.pop(field, None)
        else:
            self.by_field[field] = sorted(keys)

    def clash(self, changes, table):
        """Return the first field, by keys, that changes would give to two keys, None for none.

        table is what is there.
        """
        if not self.single:
            return None
        whole = {key: table[key] for key in table}
        whole.update(changes)
        seen = {}
        for field in [self.field(whole[key]) for key in sorted(whole)]:
            if field in seen:
                return field
            if field is not None:
                seen[field] = True
        return None


class Follower:
    """A beginning of keys, and the time up to which it has heard."""

    def __init__(self, prefix, time):
        self.prefix = prefix
        self.time = time


class Table:
    """Versions, indexes by name, and followers by name."""

    def __init__(self):
        self.versions = Versions()
        self.indexes = {}
        self.followers = {}

    def now(self):
        """Return the table of what is there."""
        return self.versions.table_at(self.versions.time)

    def add_index(self, name, place, single=False):
        """Add an index over what is there; raise TableError if the name is taken, or two keys have one field."""
        if name in self.indexes or place < 0:
            raise TableError("the name is taken, or there is no such place")
        table = self.now()
        found = Index(name, place, single)
        if found.clash(table, {}) is not None:
            raise TableError("two keys have one field")
        for key in table:
            found.move(key, None, table[key])
        self.indexes[name] = found

    def commit(self, deal):
        """Keep a deal; return its time, None if it conflicts, or would give one field of a single index to two keys."""
        table = self.now()
        if any([self.indexes[name].clash(deal.wrote, table) is not None for name in self.indexes]):
            self.versions.drop(deal)
            return None
        time = self.versions.commit(deal)
        if time is not None:
            for name in self.indexes:
                for key in deal.wrote:
                    self.indexes[name].move(key, table.get(key), deal.wrote[key])
        return time

    def look_up(self, name, low, high):
        """Return (field, key) by an index, of fields from low on and below high, None for no end, ascending.

        Fields are texts or numbers, not both; raise TableError for an unknown index.
        """
        if name not in self.indexes:
            raise TableError("there is no such index")
        by_field = self.indexes[name].by_field
        fields = [field for field in sorted(by_field) if is_within(field, low, high)]
        return tuple([(field, key) for field in fields for key in by_field[field]])

    def there(self, prefix):
        """Return the (key, value) rows of keys with a beginning, ascending."""
        table = self.now()
        return tuple([(key, table[key]) for key in sorted(table) if key.startswith(prefix)])

    def follow(self, name, prefix):
        """Let somebody hear of changes of keys with a beginning, from now on; return what is there.

        That are (key, value) rows.
        """
        self.followers[name] = Follower(prefix, self.versions.time)
        return self.there(prefix)

    def hear(self, name):
        """Return ("changes", (time, key, value) rows) that a follower has not heard of, or ("anew", what is there).

        The latter if some of them are gone. Raise TableError for an unknown follower.
        """
        if name not in self.followers:
            raise TableError("there is no such follower")
        follower = self.followers[name]
        if follower.time < self.versions.trimmed:
            told = ("anew", self.there(follower.prefix))
        else:
            rows = self.versions.changes(follower.time, self.versions.time)
            told = ("changes", tuple([row for row in rows if row[1].startswith(follower.prefix)]))
        follower.time = self.versions.time
        return told

    def backup(self):
        """Return the bytes of all that is there now."""
        return frame((MARK, -1, self.versions.time, self.there("")))

    def changes_backup(self, time):
        """Return the bytes of all changes behind a time; raise TableError if some of these were trimmed."""
        now = self.versions.time
        return frame((MARK, time, now, self.versions.changes(time, now)))


def restored(data, time):
    """Return the table (of keys to values) at a time, of the bytes of a backup and of changes behind it, in order.

    Raise TableError for bytes that are damaged or do not follow each other, and a time that they do not tell.
    """
    rows = backup_rows(data)
    if rows == [] or not is_backup(rows[0]):
        raise TableError("the bytes are no backup")
    here = rows[0][2]
    if time < here:
        raise TableError("the time is before that of the backup")
    table = {key: value for key, value in rows[0][3]}
    for row in rows[1:]:
        if row[1] != here or not is_changes(row):
            raise TableError("changes do not follow what is before them")
        for changed, key, value in row[3]:
            if changed <= time:
                put_value(table, key, value)
        here = row[2]
    if time > here:
        raise TableError("the time is behind that of the last changes")
    return table


def put_value(table, key, value):
    """Put a value at a key, None drops it."""
    table[key] = value
    if value is None:
        table.pop(key)


def backup_rows(data):
    """Return the rows (mark, begin, end, rows) of bytes; raise TableError for others."""
    found, many = read_frames(data)
    if many != len(data):
        raise TableError("the bytes are damaged")
    for row in found:
        if not isinstance(row, tuple) or len(row) != 4 or row[0] != MARK:
            raise TableError("the bytes are no backup")
    return found


def is_number(value):
    """Return True for a whole number, which the truths are not."""
    return isinstance(value, int) and value is not True and value is not False


def is_backup(row):
    """Return True if a row has what is there at a time: (key, value) rows by ascending keys; it begins at -1."""
    _, begin, end, kept = row
    if begin != -1 or not is_number(end) or end < 0 or not isinstance(kept, tuple):
        return False
    for one in kept:
        if not isinstance(one, tuple) or len(one) != 2 or not is_key(one[0]) or one[1] is None:
            return False
    return is_ascending([one[0] for one in kept])


def is_changes(row):
    """Return True if a row has changes behind a time up to another one: (time, key, value) rows by time, then key."""
    _, begin, end, kept = row
    if not is_number(begin) or not is_number(end) or end < begin or not isinstance(kept, tuple):
        return False
    for one in kept:
        if not isinstance(one, tuple) or len(one) != 3 or not is_number(one[0]) or not begin < one[0] <= end:
            return False
        if not is_key(one[1]):
            return False
    return is_ascending([one[:2] for one in kept])


def is_ascending(places):
    """Return True if each of some places is greater than the one before."""
    return all([places[at] < places[at + 1] for at in range(len(places) - 1)])
