"""Queues: work that is given out until it is done, and shares of work among many."""

from shardstack.errors import QueueError

MOST_TAKES = 3
MOST_WEIGHT = 10
# A size by any weight is a whole number of points.
POINTS = 5040


class Work:
    """A number, a body, when it may be taken, how often it was taken, and the receipt of the last taking, or None."""

    def __init__(self, number, body, time):
        self.number = number
        self.body = body
        self.ready = time
        self.takes = 0
        self.receipt = None


class WorkQueue:
    """Work by number, what was given up, how long a taking holds, and the next number and receipt."""

    def __init__(self, length):
        if length < 1:
            raise QueueError("a taking holds for some time")
        self.rows = {}
        self.given_up = []
        self.length = length
        self.next_number = 1
        self.next_receipt = 1

    def put(self, body, time, wait=0):
        """Add work that may be taken so much later, and return its number; raise QueueError below 0."""
        if wait < 0:
            raise QueueError("work does not wait for the past")
        number = self.next_number
        self.rows[number] = Work(number, body, time + wait)
        self.next_number = number + 1
        return number

    def take(self, time):
        """Return (number, receipt, body) of the work with the least number that may be taken, None for none.

        Nobody else has it for the queue's length. Work that was taken three times and is ready again is given up.
        """
        for number in sorted(self.rows):
            work = self.rows[number]
            if work.ready <= time and work.takes < MOST_TAKES:
                return self.give_out(work, time)
            if work.ready <= time:
                self.given_up.append(self.rows.pop(number))
        return None

    def give_out(self, work, time):
        """Give work out, and return (number, receipt, body)."""
        work.ready = time + self.length
        work.takes = work.takes + 1
        work.receipt = self.next_receipt
        self.next_receipt = work.receipt + 1
        return (work.number, work.receipt, work.body)

    def holds(self, number, receipt, time):
        """Return True if a receipt is the last one of its work, and its time is not over."""
        # Work that was never taken has no receipt: None is not one that could be the last.
        if receipt is None or number not in self.rows:
            return False
        work = self.rows[number]
        return work.receipt == receipt and time < work.ready

    def done(self, number, receipt, time):
        """Note that work is done, by the receipt of its taking; return False for another one, or too late."""
        if not self.holds(number, receipt, time):
            return False
        self.rows.pop(number)
        return True

    def give_back(self, number, receipt, time):
        """Let work be taken by others again at once; return False for another receipt, or too late."""
        return self.set_ready(number, receipt, time, time)

    def longer(self, number, receipt, time):
        """Hold work for the queue's length from now on; return False for another receipt, or too late."""
        return self.set_ready(number, receipt, time, time + self.length)

    def set_ready(self, number, receipt, time, ready):
        """Let work that is held be taken at another time; return False for another receipt, or too late."""
        if not self.holds(number, receipt, time):
            return False
        work = self.rows[number]
        work.ready = ready
        return True


class Tenant:
    """A weight, work that waits as (size, body), and the point up to which it was served."""

    def __init__(self, weight):
        self.weight = weight
        self.waits = []
        self.point = 0


class Shares:
    """Tenants by name, and the point at which the last work began: each is served by its weight.

    A work of a size takes its tenant's point on by the size times 5040, by the weight, rounded down.
    """

    def __init__(self):
        self.tenants = {}
        self.point = 0

    def add(self, name, weight):
        """Add a tenant with a weight from 1 to 10; raise QueueError."""
        if name in self.tenants or not 1 <= weight <= MOST_WEIGHT:
            raise QueueError("names are different, and weights are from 1 to 10")
        self.tenants[name] = Tenant(weight)

    def put(self, name, size, body):
        """Add work of a tenant; raise QueueError for an unknown one, or no size.

        A tenant for whom nothing waited begins at the point at which the last work began, if its own is less.
        """
        if name not in self.tenants or size < 1:
            raise QueueError("there is no such tenant, or no such size")
        tenant = self.tenants[name]
        if tenant.waits == []:
            tenant.point = max(tenant.point, self.point)
        tenant.waits.append((size, body))

    def next_work(self):
        """Return (tenant, size, body) of the next work, that of the tenant with the least point; None for none.

        Of equal points the first by name is served.
        """
        names = [name for name in self.tenants if self.tenants[name].waits != []]
        if names == []:
            return None
        name = min(names, key=lambda one: (self.tenants[one].point, one))
        tenant = self.tenants[name]
        size, body = tenant.waits.pop(0)
        self.point = tenant.point
        tenant.point = tenant.point + size * POINTS // tenant.weight
        return (name, size, body)
