"""Leases: who may act alone for a while, by clocks that drift, with numbers by which late acts are refused."""

from shardstack.errors import MachineError

# Rates are (top, low).
SLOWEST = (9, 10)
FASTEST = (11, 10)
LENGTH_LIMIT = 1000


class DriftClock:
    """A clock that goes on by a rate, (top, low), from 9/10 to 11/10 of true time, from a start on."""

    def __init__(self, rate, start=0):
        top, low = rate
        if low < 1 or top * SLOWEST[1] < low * SLOWEST[0] or top * FASTEST[1] > low * FASTEST[0]:
            raise MachineError("no clock has such a rate")
        self.top = top
        self.low = low
        self.begun = start

    def at(self, time):
        """Return what the clock shows at a true time."""
        return self.begun + time * self.top // self.low


def rounded_up(number, by):
    """Return a number by another one, rounded up."""
    return (number + by - 1) // by


def waiting_time(length):
    """Return how many ticks of any clock surely last longer than a length by any other one."""
    # What a clock shows of a time is its rate's part of it, rounded down or up. So much time is surely more than the
    # length by the slowest clock; in any lesser time the fastest one shows less than what is returned.
    time = rounded_up((length + 1) * SLOWEST[1], SLOWEST[0])
    return rounded_up((time - 1) * FASTEST[0], FASTEST[1]) + 1


class Granter:
    """A clock, who holds the lease, until when by the clock it is not given to others, and the number of grants."""

    def __init__(self, clock):
        self.clock = clock
        self.holder = None
        self.until = 0
        self.number = 0

    def ask(self, name, length, time):
        """Return the number of a lease granted at a true time, None if another one may still hold it."""
        if not 0 < length < LENGTH_LIMIT:
            raise MachineError("no lease has such a length")
        now = self.clock.at(time)
        until = now + waiting_time(length)
        if self.holder is None or now >= self.until:
            self.number = self.number + 1
        elif self.holder == name:
            # The holder may not hear of this grant, and hold the lease as long as it was granted before.
            until = max(until, self.until)
        else:
            return None
        self.holder = name
        self.until = until
        return self.number

    def give_back(self, name, number):
        """Take a lease back that its holder does not need any more; return whether it was theirs."""
        # Where nobody holds it, None is not the name of one who does.
        if self.holder is None or self.holder != name or self.number != number:
            return False
        self.holder = None
        return True


class Holder:
    """A clock, a name, the lease's number, and until when by the clock it holds.

    asked is what the clock showed at the asking that stands, None for none; turn is the number of the last asking.
    """

    def __init__(self, name, clock):
        self.name = name
        self.clock = clock
        self.number = None
        self.until = 0
        self.asked = None
        self.length = 0
        self.turn = 0

    def begin(self, length, time):
        """Note when a lease of a length is asked for, from when on it counts, and return the number of the asking."""
        self.asked = self.clock.at(time)
        self.length = length
        self.turn = self.turn + 1
        return self.turn

    def granted(self, turn, number):
        """Return True and hold the lease that was asked for; a grant, or refusal, of an earlier asking does nothing."""
        if self.asked is None or turn != self.turn or number is None:
            return False
        self.number = number
        self.until = self.asked + self.length
        return True

    def holds(self, time):
        """Return True if the lease is held at a true time, by the holder's own clock."""
        return self.number is not None and self.clock.at(time) < self.until

    def drop(self):
        """Hold nothing any more, and return the lease's number, None for none."""
        # It may be given back, and granted to another one: no grant that is still under way may count. The granter may
        # know of a grant that was not heard of here, so that this ends an asking also where nothing is held.
        self.asked = None
        number = self.number
        self.number = None
        return number


class Guarded:
    """A row of acts: one with a lesser number than an earlier one's is refused."""

    def __init__(self):
        self.acts = []

    def act(self, number, what):
        """Add an act by its lease's number and return True, or refuse it and return False."""
        if self.acts != [] and number < self.acts[-1][0]:
            return False
        self.acts.append((number, what))
        return True
