"""Filters: small tables that tell much: what surely is not there, how often at most, and what comes most often."""

from shardstack.errors import TableError
from shardstack.hashtree import hash_of

MOST_BITS = 4096
MOST_WAYS = 8


def check_sizes(size, ways):
    """Raise TableError for a size or a number of ways that no filter has."""
    if not 0 < size <= MOST_BITS or not 0 < ways <= MOST_WAYS:
        raise TableError("there are 1 to 4096 places and 1 to 8 ways")


def place_of(way, value, size):
    """Return a value's place by a way."""
    return hash_of((way, value)) % size


class Filter:
    """So many bits and ways; what was added may be there, other things mostly are told not to be."""

    def __init__(self, bits, ways):
        check_sizes(bits, ways)
        self.size = bits
        self.ways = ways
        self.places = {}

    def add(self, value):
        """Add a value."""
        for place in [place_of(way, value, self.size) for way in range(self.ways)]:
            self.places[place] = True

    def may_have(self, value):
        """Return False if a value was surely not added."""
        for way in range(self.ways):
            if place_of(way, value, self.size) not in self.places:
                return False
        return True

    def joined(self, other):
        """Return the filter of what was added to either; raise TableError for other sizes."""
        if (self.size, self.ways) != (other.size, other.ways):
            raise TableError("filters of other sizes are not joined")
        found = Filter(self.size, self.ways)
        for place in list(self.places) + list(other.places):
            found.places[place] = True
        return found

    def shown(self):
        """Return (size, ways, places ascending)."""
        return (self.size, self.ways, tuple(sorted(self.places)))


class Counts:
    """Rows of counts, one for each way: how often a value came is at most the least of its counts.

    rows has the counts by (way, place), but those of 0; whole is the sum of all that was added.
    """

    def __init__(self, width, ways):
        check_sizes(width, ways)
        self.width = width
        self.ways = ways
        self.rows = {}
        self.whole = 0

    def places_of(self, value):
        """Return a value's (way, place) rows."""
        return [(way, place_of(way, value, self.width)) for way in range(self.ways)]

    def add(self, value, many=1):
        """Count a value so many times more; raise TableError below 1."""
        if many < 1:
            raise TableError("a value is counted once at least")
        for place in self.places_of(value):
            self.rows[place] = self.rows.get(place, 0) + many
        self.whole = self.whole + many

    def at_most(self, value):
        """Return how often a value came at most; never less than it did."""
        return min([self.rows.get(place, 0) for place in self.places_of(value)])

    def joined(self, other):
        """Return the counts of both; raise TableError for other sizes."""
        if (self.width, self.ways) != (other.width, other.ways):
            raise TableError("counts of other sizes are not joined")
        rows = {place: self.rows[place] for place in self.rows}
        for place in other.rows:
            rows[place] = rows.get(place, 0) + other.rows[place]
        found = Counts(self.width, self.ways)
        found.rows = rows
        found.whole = self.whole + other.whole
        return found


class Tops:
    """At most so many values with counts; each count is too small by at most what was missed."""

    def __init__(self, many):
        if many < 1:
            raise TableError("there is one place at least")
        self.many = many
        self.missed = 0
        self.counts = {}

    def add(self, value):
        """Count a value; if there is no place for it, all counts go down by 1 in its stead, and those of 0 go."""
        if value in self.counts or len(self.counts) < self.many:
            self.counts[value] = self.counts.get(value, 0) + 1
            return
        self.counts = {one: self.counts[one] - 1 for one in self.counts if self.counts[one] > 1}
        self.missed = self.missed + 1

    def top(self):
        """Return (value, count), the greatest counts first, then by values."""
        rows = sorted([(0 - self.counts[value], value) for value in self.counts])
        return tuple([(value, 0 - below) for below, value in rows])
