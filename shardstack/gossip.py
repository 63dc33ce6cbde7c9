"""Gossip: machines that tell each other how lately they heard of whom, and suspect those not heard of for long."""

from shardstack.errors import MachineError

ALIVE = "alive"
SUSPECT = "suspect"
DEAD = "dead"

SUSPECT_TICKS = 6
DEAD_TICKS = 15


class View:
    """A machine's name, its own count, and of each machine the highest count heard of, and when that was.

    rows has (count, time) for each machine, the own count among them. Of machines that were forgotten the count is
    kept: news that tells no more of them is old.
    """

    def __init__(self, name, names):
        if name not in names:
            raise MachineError("a machine is one of those that it looks at")
        self.name = name
        self.time = 0
        self.rows = {one: (0, 0) for one in names}
        self.forgotten = {}

    def tick(self):
        """Let a tick pass: the own count rises."""
        self.time = self.time + 1
        count, _ = self.rows[self.name]
        self.rows[self.name] = (count + 1, self.time)

    def news(self):
        """Return (name, count) of all machines, in ascending order."""
        return tuple([(name, self.rows[name][0]) for name in sorted(self.rows)])

    def hear(self, news):
        """Take over counts that are higher; machines that were unknown, or forgotten with less, are known again."""
        for name, count in news:
            if count > self.known_count(name):
                self.rows[name] = (count, self.time)
                self.forgotten.pop(name, None)

    def known_count(self, name):
        """Return the highest count heard of a machine, one below all for an unknown one."""
        if name in self.rows:
            return self.rows[name][0]
        return self.forgotten.get(name, -1)

    def state_of(self, name):
        """Return "alive", "suspect" or "dead"; raise MachineError for an unknown machine."""
        if name not in self.rows:
            raise MachineError("the machine is unknown")
        ticks = self.time - self.rows[name][1]
        if ticks >= DEAD_TICKS:
            return DEAD
        return SUSPECT if ticks >= SUSPECT_TICKS else ALIVE

    def names_in(self, state):
        """Return the names of the machines in a state, in ascending order."""
        return [name for name in sorted(self.rows) if self.state_of(name) == state]

    def forget_dead(self):
        """Forget machines that are dead, and return their names."""
        found = self.names_in(DEAD)
        for name in found:
            count, _ = self.rows.pop(name)
            self.forgotten[name] = count
        return found


class Crowd:
    """Views by name, machines that are down, and a number that tells whose turn it is to be told."""

    def __init__(self, names, seed=1):
        self.views = {name: View(name, names) for name in names}
        self.down = {}
        self.turn = seed

    def partner(self, name):
        """Return the other machine whose turn it is: in ascending order, one after another, round after round."""
        others = [one for one in sorted(self.views) if one != name]
        if others == []:
            return None
        return others[self.turn % len(others)]

    def names_up(self):
        """Return the names of the machines that are up, in ascending order."""
        return [name for name in sorted(self.views) if name not in self.down]

    def tell_round(self):
        """Let a tick pass for all machines that are up, and each tell a partner, which answers, if that is up."""
        self.turn = self.turn + 1
        names = self.names_up()
        for name in names:
            self.views[name].tick()
        for name in names:
            partner = self.partner(name)
            if partner in names:
                self.views[partner].hear(self.views[name].news())
                self.views[name].hear(self.views[partner].news())

    def set_down(self, name, down):
        """Let a machine go down, or come up again; raise MachineError for an unknown one."""
        if name not in self.views:
            raise MachineError("there is no such machine")
        if down:
            self.down[name] = True
        else:
            self.down.pop(name, None)

    def agree_on(self, name):
        """Return the states in which the machines that are up see one, each once, in ascending order."""
        views = [self.views[one] for one in self.names_up()]
        # Who has forgotten the machine, or never heard of it, sees it in no state.
        return sorted({view.state_of(name) for view in views if name in view.rows})
