"""Merging: values that machines change apart, and that are the same in whatever order they are brought together."""

from shardstack.errors import CheckError
from shardstack.wire import pack


def table_of(rows):
    """Return the table that (key, value) rows tell."""
    return {key: value for key, value in rows}


def shown_table(table):
    """Return a table's (key, value) rows in ascending order."""
    return tuple([(key, table[key]) for key in sorted(table)])


class Counter:
    """Rises and falls by machine."""

    def __init__(self, rises=(), falls=()):
        self.rises = table_of(rises)
        self.falls = table_of(falls)

    def add(self, machine, number):
        """Add a number, perhaps below 0, at a machine."""
        if number >= 0:
            self.rises[machine] = self.rises.get(machine, 0) + number
        else:
            self.falls[machine] = self.falls.get(machine, 0) - number

    def total(self):
        """Return the counter's value."""
        return sum([self.rises[machine] for machine in self.rises]) - sum([self.falls[one] for one in self.falls])

    def merged(self, other):
        """Return the counter of both."""
        rises = shown_table(greatest(self.rises, other.rises))
        return Counter(rises, shown_table(greatest(self.falls, other.falls)))

    def shown(self):
        """Return the rises and falls as rows in ascending order."""
        return (shown_table(self.rises), shown_table(self.falls))


def greatest(one, other):
    """Return the table of the greater numbers of two tables."""
    found = {key: one[key] for key in one}
    for key in other:
        found[key] = max(other[key], found.get(key, other[key]))
    return found


class Register:
    """A value, the time when it was set, and the machine that set it; the later one wins, then the greater name."""

    def __init__(self, value=None, time=0, machine=""):
        self.value = value
        self.time = time
        self.machine = machine

    def assign(self, machine, time, value):
        """Set the value; raise CheckError for a time that is not later."""
        if time <= self.time:
            raise CheckError("a register is set at later times only")
        self.value = value
        self.time = time
        self.machine = machine

    def merged(self, other):
        """Return the register that wins."""
        mine = (self.time, self.machine)
        others = (other.time, other.machine)
        is_other = others > mine
        if others == mine and other.value != self.value:
            # No rule tells which one wins, but it has to be the same one on both sides.
            is_other = pack(other.value) > pack(self.value)
        value, time, machine = other.shown() if is_other else self.shown()
        return Register(value, time, machine)

    def shown(self):
        """Return (value, time, machine)."""
        return (self.value, self.time, self.machine)


class Members:
    """A set: each member's tags, and the tags that were dropped; adding wins over a drop that did not see it.

    A tag is (machine, number). Tags that were dropped are no member's any more.
    """

    def __init__(self, tags=(), dropped=()):
        self.tags = {}
        self.dropped = {tag: True for tag in dropped}
        for member, some in tags:
            for tag in some:
                self.put(tag, member)

    def put(self, tag, member):
        """Give a member a tag, unless that was dropped."""
        if tag in self.dropped:
            return
        self.tags[member] = self.tags.get(member, {})
        self.tags[member][tag] = True

    def add(self, machine, number, member):
        """Add a member at a machine, with a number that the machine uses once."""
        self.put((machine, number), member)

    def discard(self, member):
        """Drop a member, as far as it was seen."""
        for tag in self.tags.pop(member, {}):
            self.dropped[tag] = True

    def has(self, member):
        """Return True if a member is there."""
        return member in self.tags

    def all_members(self):
        """Return the members, in ascending order."""
        return sorted(self.tags)

    def merged(self, other):
        """Return the set of both."""
        tags, dropped = self.shown()
        other_tags, other_dropped = other.shown()
        return Members(tags + other_tags, dropped + other_dropped)

    def shown(self):
        """Return the members with their tags, and the dropped tags, in ascending order."""
        tags = tuple([(member, tuple(sorted(self.tags[member]))) for member in sorted(self.tags)])
        return (tags, tuple(sorted(self.dropped)))


class Stamp:
    """A clock of counts by machine: events that one could know of the other are before it, others beside it."""

    def __init__(self, counts=()):
        self.counts = {machine: count for machine, count in counts if count != 0}

    def tick(self, machine):
        """Return the stamp after an event at a machine."""
        counts = {one: self.counts[one] for one in self.counts}
        counts[machine] = counts.get(machine, 0) + 1
        return Stamp(shown_table(counts))

    def merged(self, other):
        """Return the stamp that knows of both."""
        return Stamp(shown_table(greatest(self.counts, other.counts)))

    def knows(self, other):
        """Return True if this stamp has no lesser count than another one."""
        return all([self.counts.get(machine, 0) >= other.counts[machine] for machine in other.counts])

    def stands_before(self, other):
        """Return True if this stamp's event could be known at another one's, and is not the same."""
        return other.knows(self) and not self.knows(other)

    def compare(self, other):
        """Return "same", "before", "after" or "beside"."""
        if self.stands_before(other):
            return "before"
        if other.stands_before(self):
            return "after"
        return "same" if self.knows(other) else "beside"

    def shown(self):
        """Return the counts as rows in ascending order."""
        return shown_table(self.counts)
