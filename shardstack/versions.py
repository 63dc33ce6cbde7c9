"""Versions: a table in which each change has a time, and deals that see it as it was when they began."""

from shardstack.errors import TableError


def is_key(value):
    """Return True for what may be a key: a text, but not the empty one."""
    return isinstance(value, str) and value != ""


def is_within(key, low, high):
    """Return True for a key from low on and below high; None is no end."""
    return (low is None or key >= low) and (high is None or key < high)


class Dealing:
    """A number, the time it sees, whether its reads count, what it wrote, and what it read: keys and ranges."""

    def __init__(self, number, start, strict):
        self.number = number
        self.sees = start
        self.strict = strict
        self.goes_on = True
        self.wrote = {}
        self.read_keys = {}
        self.read_ranges = []


class Versions:
    """(time, value) rows of each key, the newest last, the time, before when versions may be gone, and open deals."""

    def __init__(self):
        self.rows = {}
        self.time = 0
        self.trimmed = 0
        self.deals = {}
        self.next_number = 1

    def begin(self, strict=False):
        """Begin a deal and return it; a strict one is kept only if nothing that it read was changed."""
        deal = Dealing(self.next_number, self.time, strict)
        self.deals[deal.number] = deal
        self.next_number = self.next_number + 1
        return deal

    def check_time(self, time):
        """Raise TableError for a time that is gone, or to come."""
        if not self.trimmed <= time <= self.time:
            raise TableError("a time is gone, or to come")

    def value_at(self, key, time):
        """Return a key's value at a time, None for none; raise TableError for a time that is gone, or to come."""
        self.check_time(time)
        for changed, value in reversed(self.rows.get(key, [])):
            if changed <= time:
                return value
        return None

    def table_at(self, time):
        """Return a table of all keys with values at a time; raise TableError."""
        self.check_time(time)
        found = {}
        for key in sorted(self.rows):
            value = self.value_at(key, time)
            if value is not None:
                found[key] = value
        return found

    def read(self, deal, key):
        """Return what a deal sees at a key: what it wrote, else what was there when it began."""
        if key in deal.wrote:
            return deal.wrote[key]
        value = self.value_at(key, deal.sees)
        deal.read_keys[key] = True
        return value

    def scan(self, deal, low, high):
        """Return (key, value) that a deal sees from low on and below high, None for no end, ascending."""
        table = self.table_at(deal.sees)
        table.update(deal.wrote)
        deal.read_ranges.append((low, high))
        return tuple([(key, table[key]) for key in sorted(table)
                      if table[key] is not None and is_within(key, low, high)])

    def write(self, deal, key, value):
        """Write a value at a key, None drops it; nobody else sees it yet. Raise TableError."""
        if not is_key(key):
            raise TableError("a key is a text, and not empty")
        deal.wrote[key] = value

    def changed_since(self, key, time):
        """Return True if a key was changed behind a time."""
        return key in self.rows and self.rows[key][-1][0] > time

    def conflicts(self, deal):
        """Return the keys, ascending, for which a deal cannot be kept: others changed them since it began.

        These are keys that it wrote; for a strict one that writes something, keys and ranges that it read, too.
        """
        if deal.wrote == {}:
            return ()
        keys = list(deal.wrote)
        if deal.strict:
            keys.extend(list(deal.read_keys))
            keys.extend([key for key in self.rows if is_in_any(key, deal.read_ranges)])
        return tuple([key for key in sorted({one: True for one in keys}) if self.changed_since(key, deal.sees)])

    def commit(self, deal):
        """Keep what a deal wrote, all at one new time, and return that; None if it conflicts, and it is dropped.

        A deal that wrote nothing is kept at the time it sees. Raise TableError for one that is over.
        """
        is_kept = self.conflicts(deal) == ()
        self.drop(deal)
        if not is_kept:
            return None
        if deal.wrote == {}:
            return deal.sees
        self.time = self.time + 1
        for key in deal.wrote:
            if key not in self.rows:
                self.rows[key] = []
            self.rows[key].append((self.time, deal.wrote[key]))
        return self.time

    def drop(self, deal):
        """Let a deal be over; raise TableError if it is."""
        if not deal.goes_on:
            raise TableError("a deal is over")
        deal.goes_on = False
        self.deals.pop(deal.number, None)

    def trim(self, time):
        """Forget versions that only times before one can see, as far as no open deal sees them; return how many go."""
        low = min([time, self.time] + [self.deals[number].sees for number in self.deals])
        if low <= self.trimmed:
            return 0
        many = 0
        for key in list(self.rows):
            rows = rows_from(self.rows[key], low)
            many = many + len(self.rows[key]) - len(rows)
            self.rows[key] = rows
            if rows == []:
                self.rows.pop(key)
        self.trimmed = low
        return many

    def changes(self, low, high):
        """Return (time, key, value) of all changes behind a time up to another one, by time, then key.

        Raise TableError if some of them may be gone, or are to come.
        """
        if not self.trimmed <= low <= high <= self.time:
            raise TableError("changes are gone, or to come")
        # A key changes once at a time, so that values are never compared.
        return tuple(sorted([(time, key, value) for key in self.rows for time, value in self.rows[key]
                             if low < time <= high]))


def is_in_any(key, ranges):
    """Return True for a key that one of some ranges, (low, high), has."""
    return any([is_within(key, low, high) for low, high in ranges])


def rows_from(rows, low):
    """Return the (time, value) rows of a key that times from one on can see, None at the beginning left out."""
    before = [row for row in rows if row[0] <= low][-1:]
    return [row for row in before if row[1] is not None] + [row for row in rows if row[0] > low]
