"""The engine: a table kept on a disk as a log, and as runs of sorted rows that are joined now and then.

The log has a record (key, value) for each put. The file of the runs is one flat row, so that a value that the log can
hold is nested no deeper there: of each run, the newest first, how many rows it has, and then their keys and values.
"""

from shardstack.errors import StoreError, TableError, WireError
from shardstack.filters import Filter
from shardstack.versions import is_key, is_within

FILTER_BITS = 64
FILTER_WAYS = 3
MOST_RUNS = 4
RUNS = "runs"


def sorted_rows(table):
    """Return the (key, value) rows of a table by ascending keys."""
    return tuple([(key, table[key]) for key in sorted(table)])


def kept_rows(table):
    """Return the (key, value) rows of a table by ascending keys, without dropped keys."""
    return tuple([row for row in sorted_rows(table) if row[1] is not None])


class Run:
    """Rows (key, value) by ascending keys, None for a dropped key, and a filter of the keys."""

    def __init__(self, rows):
        self.rows = tuple(rows)
        self.table = {key: value for key, value in self.rows}
        self.known = Filter(FILTER_BITS, FILTER_WAYS)
        for key in self.table:
            self.known.add(key)

    def has(self, key):
        """Return True if a key has a row here; the filter is asked first."""
        return self.known.may_have(key) and key in self.table


class Engine:
    """A disk, how many keys the memory holds, the memory, runs with the newest first, and how many rows were written.

    Rows are written when they are put, and again whenever all runs are kept.
    """

    def __init__(self, disk, most=8):
        if most < 1:
            raise TableError("the memory holds one key at least")
        self.disk = disk
        self.most = most
        self.memory = {}
        self.runs = []
        self.written = 0

    def put(self, key, value):
        """Put a value at a key, None drops it; it is kept at the next sync. Raise TableError or StoreError.

        When the memory has as many keys as it holds, it becomes a run.
        """
        if not is_key(key):
            raise TableError("a key is a text, and not empty")
        self.disk.append((key, value))
        self.memory[key] = value
        self.written = self.written + 1
        if len(self.memory) >= self.most:
            self.flush()

    def sync(self):
        """Keep all that was put."""
        self.disk.sync()

    def flush(self):
        """Let the memory become a run, kept with all others at once; of too many runs the two oldest are joined."""
        runs = list(self.runs)
        if self.memory != {}:
            runs.insert(0, Run(sorted_rows(self.memory)))
        if len(runs) > MOST_RUNS:
            runs = runs[:-2] + [joined_runs(runs[-2], runs[-1])]
        self.keep(runs)

    def compact(self):
        """Let memory and all runs become one run without dropped keys."""
        runs = []
        if self.memory != {} or self.runs != []:
            runs.append(Run(kept_rows(self.whole())))
        self.keep(runs)

    def keep(self, runs):
        """Keep runs that have all that was put, and empty the log, both at once."""
        self.disk.replace(RUNS, flat_row(runs), [])
        self.runs = runs
        self.memory = {}
        self.written = self.written + sum([len(run.rows) for run in runs])

    def whole(self):
        """Return the table of memory and all runs, None for dropped keys."""
        found = {}
        for run in reversed(self.runs):
            found.update(run.table)
        found.update(self.memory)
        return found

    def value_of(self, key):
        """Return a key's value, None for none."""
        if key in self.memory:
            return self.memory[key]
        try:
            for run in self.runs:
                if run.has(key):
                    return run.table[key]
        except WireError:
            # A key that cannot be sent has never been put.
            return None
        return None

    def scan(self, low, high):
        """Return (key, value) of the keys from low on and below high, None for no end, ascending."""
        return tuple([row for row in kept_rows(self.whole()) if is_within(row[0], low, high)])


def joined_runs(newer, older):
    """Return the run of the two oldest, the newer one's rows ahead, without dropped keys."""
    table = {key: older.table[key] for key in older.table}
    table.update(newer.table)
    return Run(kept_rows(table))


def flat_row(runs):
    """Return the row of the file of the runs."""
    found = []
    for run in runs:
        found.append(len(run.rows))
        for key, value in run.rows:
            found.append(key)
            found.append(value)
    return tuple(found)


def runs_of(kept):
    """Return the runs that the row of their file tells; raise StoreError for another value."""
    if not isinstance(kept, tuple):
        raise StoreError("the file of the runs is damaged")
    found = []
    place = 0
    while place < len(kept):
        many = kept[place]
        if not isinstance(many, int) or many < 0 or place + 1 + 2 * many > len(kept):
            raise StoreError("the file of the runs is damaged")
        rows = [(kept[at], kept[at + 1]) for at in range(place + 1, place + 1 + 2 * many, 2)]
        if not all([is_key(key) for key, _ in rows]):
            raise StoreError("the file of the runs is damaged")
        found.append(Run(rows))
        place = place + 1 + 2 * many
    return found


def engine_from(disk, most=8):
    """Return the engine of a disk that came up again; raise StoreError for a damaged one."""
    engine = Engine(disk, most)
    kept = disk.read_file(RUNS)
    if kept is not None:
        engine.runs = runs_of(kept)
    for record in disk.records():
        if not isinstance(record, tuple) or len(record) != 2 or not is_key(record[0]):
            raise StoreError("there is no such record of an engine")
        engine.memory[record[0]] = record[1]
    return engine
