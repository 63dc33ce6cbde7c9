"""Placing: parts on machines, each part's copies in different zones; what may stay stays."""

from shardstack.errors import PlaceError

MOST_COPIES = 9


class Place:
    """A machine's name, its zone, and how much it holds."""

    def __init__(self, name, zone, room):
        if name == "" or room < 0:
            raise PlaceError("a machine has a name and room from 0 on")
        self.name = name
        self.zone = zone
        self.room = room


class Part:
    """A part's name, its weight, and how many copies it wants."""

    def __init__(self, name, weight, copies):
        if name == "" or weight < 1 or not 1 <= copies <= MOST_COPIES:
            raise PlaceError("a part has a name, a weight from 1 on and 1 to 9 copies")
        self.name = name
        self.weight = weight
        self.copies = copies


class Planner:
    """Machines by name, parts in order, and how much room each machine has left."""

    def __init__(self, machines, parts):
        self.machines = {one.name: one for one in machines}
        self.parts = list(parts)
        self.left = {one.name: one.room for one in machines}
        if len(self.machines) != len(machines) or len({one.name: True for one in parts}) != len(parts):
            raise PlaceError("names are different")

    def plan(self, old):
        """Return a table of parts to machines, from an old one, and what lacks: a table of parts to how many copies.

        First, part by part, copies stay that may: on a machine that is there, in another zone than those before, with
        room. Then, part by part, each copy that lacks goes to the machine with the most room left of those in zones
        that the part is not in, the first by name; copies for which there is none lack.
        """
        self.left = {name: self.machines[name].room for name in self.machines}
        found = {}
        lacks = {}
        for part in self.parts:
            found[part.name] = self.staying(part, old.get(part.name, ()))
        for part in self.parts:
            rows = self.filled(part, found[part.name])
            found[part.name] = tuple(rows)
            if len(rows) < part.copies:
                lacks[part.name] = part.copies - len(rows)
        return (found, lacks)

    def staying(self, part, names):
        """Return those of the machines that have a part's copies on which copies stay, and take their room."""
        rows = []
        for name in names:
            if len(rows) < part.copies and self.may_hold(part, name, rows):
                rows = self.with_copy(part, name, rows)
        return rows

    def filled(self, part, rows):
        """Return a part's machines with those to which copies go that lack, and take their room."""
        while len(rows) < part.copies:
            name = self.best_for(part, rows)
            if name is None:
                return rows
            rows = self.with_copy(part, name, rows)
        return rows

    def with_copy(self, part, name, rows):
        """Return the machines that have a part's copies with one more, and take its room."""
        self.left[name] = self.left[name] - part.weight
        return rows + [name]

    def may_hold(self, part, name, rows):
        """Return True if a machine may hold a copy beside others."""
        if name not in self.machines or self.left[name] < part.weight:
            return False
        return self.machines[name].zone not in [self.machines[one].zone for one in rows if one in self.machines]

    def best_for(self, part, rows):
        """Return the machine with the most room left that may hold a copy, the first by name; None for none."""
        names = [name for name in self.machines if self.may_hold(part, name, rows)]
        if names == []:
            return None
        return min(names, key=lambda name: (0 - self.left[name], name))


def moves_between(old, new):
    """Return (part, machine left or None, machine come to or None), parts ascending: what goes from plan to plan.

    What a part leaves and what it comes to are put together in their orders.
    """
    found = []
    for part in sorted(list(old) + [part for part in new if part not in old]):
        before = old.get(part, ())
        after = new.get(part, ())
        left = [name for name in before if name not in after]
        come = [name for name in after if name not in before]
        many = max(len(left), len(come))
        left = left + [None] * (many - len(left))
        come = come + [None] * (many - len(come))
        found.extend([(part, left[at], come[at]) for at in range(many)])
    return tuple(found)
