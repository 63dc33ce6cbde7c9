"""Hash trees: tables of keys to values compared by few hashes, part by part."""

from shardstack.errors import CheckError
from shardstack.wire import pack

PARTS = 4
MOST_LEVELS = 6

FIRST_HASH = 17
HASH_STEP = 257
HASH_LIMIT = 2147483647


def hash_of(value):
    """Return a number from 0 to 2147483646 that tells a value apart from most others."""
    number = FIRST_HASH
    for byte in pack(value):
        number = (HASH_STEP * number + byte + 1) % HASH_LIMIT
    return number


def part_of(key, level):
    """Return the number of the part of a level that a key belongs to."""
    return hash_of((level, key)) % PARTS


def parts_of_way(way):
    """Return the ways of the four parts of a way, in ascending order."""
    return [way + (part,) for part in range(PARTS)]


class HashTree:
    """A table's rows by the ways that their keys take through the levels, and a hash for each way.

    rows has a table of keys to values for each way of the last level that has some; hashes has a number for each way
    of each level, () being the way of the whole table.
    """

    def __init__(self, table, levels=3):
        if not 0 <= levels <= MOST_LEVELS or any([table[key] is None for key in table]):
            raise CheckError("there are 0 to 6 levels, and no value is None")
        self.levels = levels
        self.rows = {}
        self.hashes = {}
        for key in table:
            self.put(key, table[key])
        ways = [()]
        order = []
        while ways != []:
            order = order + ways
            ways = [part for way in ways if len(way) < levels for part in parts_of_way(way)]
        # A way's hash is reckoned of those behind it.
        for way in reversed(order):
            self.reckon(way)

    def way_of(self, key):
        """Return the parts that a key belongs to, level by level."""
        return tuple([part_of(key, level) for level in range(self.levels)])

    def value_at(self, key):
        """Return a key's value, None for none."""
        return self.rows.get(self.way_of(key), {}).get(key)

    def put(self, key, value):
        """Put a row where it belongs, None to drop it; a way without rows is not kept."""
        way = self.way_of(key)
        rows = self.rows.get(way, {})
        if value is None:
            rows.pop(key, None)
        else:
            rows[key] = value
        if rows == {}:
            self.rows.pop(way, None)
        else:
            self.rows[way] = rows

    def reckon(self, way):
        """Reckon the hash of a way: of its rows at the last level, before of the hashes of its parts."""
        if len(way) == self.levels:
            rows = self.rows.get(way, {})
            told = tuple([(key, rows[key]) for key in sorted(rows)])
        else:
            told = tuple([self.hashes[part] for part in parts_of_way(way)])
        self.hashes[way] = hash_of(told)

    def root(self):
        """Return the hash of the whole table."""
        return self.hashes[()]

    def set_row(self, key, value):
        """Set a key's value, None to drop it, and reckon the hashes of its way again."""
        # A row that cannot be hashed changes nothing.
        pack(((key, value),))
        self.put(key, value)
        way = self.way_of(key)
        for level in range(self.levels, -1, -1):
            self.reckon(way[:level])


def differing_ways(one, other):
    """Return (ways of the last level whose rows differ, how many hashes were compared); raise CheckError."""
    if one.levels != other.levels:
        raise CheckError("trees of different levels are not compared")
    ways = [()]
    many = 0
    level = 0
    while True:
        many = many + len(ways)
        ways = [way for way in ways if one.hashes[way] != other.hashes[way]]
        if level == one.levels:
            return (ways, many)
        ways = [part for way in ways for part in parts_of_way(way)]
        level = level + 1


def differing_keys(one, other):
    """Return the keys whose values differ, or that only one has, in ascending order."""
    ways, _ = differing_ways(one, other)
    found = []
    for way in ways:
        mine = one.rows.get(way, {})
        others = other.rows.get(way, {})
        keys = list(mine) + [key for key in others if key not in mine]
        # Bytes tell True from 1, as the hashes do.
        found.extend([key for key in keys if pack(mine.get(key)) != pack(others.get(key))])
    return sorted(found)


def bring_together(one, other):
    """Let the second tree have the first one's rows, and return how many rows were sent."""
    keys = differing_keys(one, other)
    for key in keys:
        other.set_row(key, one.value_at(key))
    return len(keys)
