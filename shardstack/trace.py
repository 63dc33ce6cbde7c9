"""Traces: a cluster's run told so that it can be done again, and digests that tell clusters apart."""

from shardstack.cluster import EVENTS, Cluster
from shardstack.errors import TextError
from shardstack.hashtree import hash_of
from shardstack.keeper import rows_of
from shardstack.shards import MAPS

DIGITS = "0123456789"
MOST_DIGITS = 30


def machine_digest(cluster, name):
    """Return what a machine holds, as a value."""
    disk = cluster.disks[name]
    kept = (disk.kept, disk.waiting, rows_of(disk.files), disk.syncs, disk.fuse, disk.down)
    if name not in cluster.servers:
        return (name, kept, None)
    server = cluster.servers[name]
    agreement = server.agreement
    journal = agreement.journal
    entries = tuple([entry.shown() for entry in journal.entries])
    log = (journal.term, journal.vote, journal.base, journal.base_term, journal.base_members, journal.image, entries)
    part = (agreement.part, agreement.leader, agreement.committed, agreement.turn, agreement.clock)
    others = (rows_of(agreement.matched), rows_of(agreement.following))
    return (name, kept, (log, part, others, server.applied, server.book.make_image(), rows_of(server.waiting)))


def digest(cluster):
    """Return a number that tells a cluster's machines, messages and histories apart from most others."""
    machines = tuple([machine_digest(cluster, name) for name in cluster.names()])
    net = (tuple(cluster.net.messages), rows_of(cluster.net.parts), cluster.net.sent, cluster.net.lost)
    histories = (tuple(cluster.history()), tuple(cluster.admin.events))
    return hash_of((machines, net, histories))


def event_word(choice):
    """Return the text of an event that a number tells."""
    word = EVENTS[choice % len(EVENTS)]
    return f"{word} {choice // len(EVENTS)}"


def trace_text(choices):
    """Return a line for each event."""
    return "".join([event_word(choice) + "\n" for choice in choices])


def choice_of(line):
    """Return the least number that tells a line's event; raise TextError for another line."""
    word, _, digits = line.partition(" ")
    if word not in EVENTS or digits == "" or len(digits) > MOST_DIGITS or any([one not in DIGITS for one in digits]):
        raise TextError("a line has an event's word and its rest")
    return EVENTS.index(word) + len(EVENTS) * int(digits)


def parse_trace(text):
    """Return the numbers of a text's events; raise TextError for an invalid line."""
    lines = text.split("\n")
    # Behind the last line end there is no line.
    if lines[-1] == "":
        lines.pop()
    return [choice_of(line) for line in lines]


def rerun(groups, seed, limit, wishes, choices):
    """Return a cluster after a first map of all groups but the maps', clients with wishes, and events."""
    cluster = Cluster(groups, seed, limit)
    for group in sorted(groups):
        if group != MAPS:
            cluster.change_map(("join", group, tuple(groups[group])))
    for name in sorted(wishes):
        cluster.add_client(name, wishes[name])
    for choice in choices:
        cluster.act(choice)
    return cluster
