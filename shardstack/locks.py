"""Locks: who may read or write what, who waits, and who waits for each other."""

from shardstack.errors import LockError

SHARED = "shared"
SOLE = "sole"
MODES = ("shared", "sole")


def is_apart(one, other):
    """Return True if two modes do not go together."""
    return one == SOLE or other == SOLE


class LockTable:
    """(owner, mode) of who holds each key, of who waits in order, and numbers of sole holders by key."""

    def __init__(self):
        self.held = {}
        self.waits = {}
        self.numbers = {}

    def ask(self, owner, key, mode):
        """Ask for a key; return True if it is held now, False if its owner waits.

        Who waits is served in order; who holds it shared and asks for it solely waits ahead of all others. Raise
        LockError for another mode, and for one who waits for the key.
        """
        if mode not in MODES or owner in [one for one, _ in self.waits.get(key, [])]:
            raise LockError("there is no such mode, or its owner waits")
        here = self.mode_of(owner, key)
        if here == SOLE or here == mode:
            return True
        rows = self.waits.get(key, [])
        if here is None:
            self.waits[key] = rows + [(owner, mode)]
        else:
            self.waits[key] = [(owner, mode)] + rows
        self.serve(key)
        return self.mode_of(owner, key) == mode

    def mode_of(self, owner, key):
        """Return how an owner holds a key, None for not."""
        for one, mode in self.held.get(key, []):
            if one == owner:
                return mode
        return None

    def number_of(self, owner, key):
        """Return the number of a sole holder's time with a key, greater than all before; raise LockError for others."""
        if self.mode_of(owner, key) != SOLE:
            raise LockError("the owner does not hold the key solely")
        return self.numbers[key]

    def release(self, owner, key):
        """Let an owner hold a key no more; raise LockError if it does not."""
        if self.mode_of(owner, key) is None:
            raise LockError("the owner does not hold the key")
        put_rows(self.held, key, without(self.held[key], owner))
        self.serve(key)

    def leave(self, owner):
        """Let an owner hold nothing and wait for nothing."""
        keys = [key for key in self.waits if owner in [one for one, _ in self.waits[key]]]
        for key in keys:
            put_rows(self.waits, key, without(self.waits[key], owner))
        mine = [key for key in self.held if self.mode_of(owner, key) is not None]
        for key in mine:
            self.release(owner, key)
        # Those behind one who waited may be served although nobody released the key.
        for key in keys:
            self.serve(key)

    def serve(self, key):
        """Let those who wait for a key hold it, in order, as far as it goes."""
        rows = self.waits.get(key, [])
        at = self.next_served(key, rows)
        while at is not None:
            owner, mode = rows[at]
            self.hold(owner, key, mode)
            rows = rows[:at] + rows[at + 1:]
            at = self.next_served(key, rows)
        put_rows(self.waits, key, rows)

    def next_served(self, key, rows):
        """Return the place of the one who waits and may hold a key next, None if nobody may."""
        for at, (owner, mode) in enumerate(rows):
            others = [one for one in self.held.get(key, []) if one[0] != owner]
            # Who holds the key already, and alone, has it solely at once, also where another one waits ahead.
            is_next = at == 0 or self.mode_of(owner, key) is not None
            if is_next and not any([is_apart(mode, other) for _, other in others]):
                return at
        return None

    def hold(self, owner, key, mode):
        """Let an owner hold a key; a sole holder's time has the key's next number."""
        self.held[key] = without(self.held.get(key, []), owner) + [(owner, mode)]
        if mode == SOLE:
            self.numbers[key] = self.numbers.get(key, 0) + 1

    def waits_for(self, owner):
        """Return those an owner waits for, ascending: who holds the key, or waits ahead, and cannot have it with it."""
        found = {}
        for key in self.waits:
            rows = self.waits[key]
            for at, (one, mode) in enumerate(rows):
                if one == owner:
                    for other, wanted in self.held.get(key, []) + rows[:at]:
                        if other != owner and is_apart(mode, wanted):
                            found[other] = True
        return tuple(sorted(found))

    def ring(self):
        """Return owners who wait for each other in a ring, from the least one on, None if there are none.

        It is the first that is found from the least owner on, going on to the least one that is waited for.
        """
        done = {}
        for first in sorted({owner: True for key in self.waits for owner, _ in self.waits[key]}):
            path = [first]
            left = [list(self.waits_for(first))]
            while path != []:
                if left[-1] == []:
                    # Nobody whom this one waits for, directly or not, is in a ring.
                    done[path.pop()] = True
                    left.pop()
                    continue
                owner = left[-1].pop(0)
                if owner in path:
                    return from_least(path[path.index(owner):])
                if owner not in done:
                    path.append(owner)
                    left.append(list(self.waits_for(owner)))
        return None


def without(rows, owner):
    """Return (owner, mode) rows without those of an owner."""
    return [row for row in rows if row[0] != owner]


def put_rows(table, key, rows):
    """Put a key's rows into a table; a key without rows is not there."""
    if rows == []:
        table.pop(key, None)
    else:
        table[key] = rows


def from_least(ring):
    """Return the owners of a ring in their order, the least one first."""
    at = ring.index(min(ring))
    return tuple(ring[at:] + ring[:at])
