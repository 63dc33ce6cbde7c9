"""What several tests use: machines of a group, and how they come to a state."""

from shardstack.disk import Disk
from shardstack.journal import Entry, Journal, read_journal
from shardstack.raft import Agreement

NAMES = ("a", "b", "c")


def waits(name, seed, many):
    """Return the ticks that a machine draws, one after another, as point [5] tells."""
    place = "\n" + "".join(chr(number) for number in range(32, 127) if number != 37)
    number = 0
    for sign in name:
        number = 97 * number + place.index(sign) + 1
    found = []
    for _ in range(many):
        seed = (seed * 1103515245 + 12345 + 2 * number) % 2147483648
        found.append(8 + seed // 65536 % 8)
    return found


def agreement(name="a", members=NAMES, seed=1, rows=(), term=0):
    """Return a follower whose log has some (term, command) rows."""
    journal = Journal(Disk(), members)
    if term > 0:
        journal.set_term(term, None)
    if rows:
        journal.add(tuple(Entry(one, command) for one, command in rows))
    return Agreement(name, journal, seed)


def stand(machine):
    """Let ticks pass until a machine stands, and return how many."""
    term = machine.journal.term
    for many in range(1, 40):
        machine.tick()
        if machine.journal.term > term:
            return many
    raise AssertionError("it does not stand")


def elect(machine):
    """Let a machine stand and be given all votes."""
    stand(machine)
    for other in machine.others():
        if machine.part != "leader":
            machine.receive(("vote", machine.journal.term, other, True))
    assert machine.part == "leader"
    return machine


def leader(name="a", members=NAMES, seed=1, rows=(), term=0):
    """Return a leader whose first entry is not yet answered, and whose outbox is empty."""
    machine = elect(agreement(name, members, seed, rows, term))
    machine.take_outbox()
    return machine


def confirm(machine, source, number=None):
    """Let a machine answer a leader's last round: it has all entries, or those up to a number."""
    journal = machine.journal
    machine.receive(("accept", journal.term, source, True, journal.last() if number is None else number, machine.turn))


def settled_leader(name="a", members=NAMES, seed=1, rows=(), term=0):
    """Return a leader whose entries all others have."""
    machine = leader(name, members, seed, rows, term)
    for other in machine.others():
        confirm(machine, other)
    machine.take_outbox()
    return machine


def come_up(machine, members=NAMES, many=0, seed=1):
    """Return the agreement of a machine that went down and came up again."""
    disk = machine.journal.disk
    disk.crash(many)
    disk.restart()
    return Agreement(machine.name, read_journal(disk, members), seed)


def log_of(machine):
    """Return the entries of a machine as rows."""
    return [entry.shown() for entry in machine.journal.entries]
