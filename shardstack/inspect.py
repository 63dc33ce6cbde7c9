"""Inspection: what must hold among the machines of a cluster at any time."""

from shardstack.errors import CheckError
from shardstack.journal import MEMBERS, read_journal
from shardstack.keeper import KEPT
from shardstack.raft import LEADER
from shardstack.shards import MAPS, SHARDS


def journals(cluster, group):
    """Return the journals of a group's machines, those that are down as their disks hold them, by name."""
    found = {}
    for name in cluster.groups[group]:
        if name in cluster.servers:
            found[name] = cluster.servers[name].agreement.journal
        else:
            found[name] = read_journal(cluster.disks[name], cluster.first_members[name])
    return found


def servers_of(cluster, group):
    """Return the machines of a group that are up."""
    return [cluster.servers[name] for name in cluster.groups[group] if name in cluster.servers]


def check_leaders(cluster, group):
    """Raise CheckError if two machines of a group that are up lead in the same term."""
    terms = []
    for server in servers_of(cluster, group):
        if server.agreement.part == LEADER:
            term = server.agreement.journal.term
            if term in terms:
                raise CheckError("two machines lead in the same term")
            terms.append(term)


def check_logs(cluster, group):
    """Raise CheckError if logs of a group with a same entry differ before it."""
    found = journals(cluster, group)
    names = sorted(found)
    for at in range(len(names)):
        for other in names[at + 1:]:
            check_pair(found[names[at]], found[other])


def check_pair(one, other):
    """Raise CheckError if two journals have entries of a same term at a number, and differ there or before."""
    same = False
    number = min(one.last(), other.last())
    while number > max(one.base, other.base):
        if one.term_at(number) == other.term_at(number):
            if one.entry(number).command != other.entry(number).command:
                raise CheckError("entries of the same term differ")
            same = True
        elif same:
            raise CheckError("logs differ before a same entry")
        number = number - 1


def check_committed(cluster, group):
    """Raise CheckError if a committed entry of a machine that is up is not on more than half of the disks.

    Machines whose journals do not tell the members yet are left out.
    """
    found = journals(cluster, group)
    for server in servers_of(cluster, group):
        journal = server.agreement.journal
        number = server.agreement.committed
        while number > 0 and number >= journal.base:
            check_entry(found, journal, number)
            number = number - 1


def check_entry(found, journal, number):
    """Raise CheckError if a journal's entry is not on more than half of the disks of any members that are told."""
    if number > journal.last():
        raise CheckError("a committed entry is not even in the own log")
    term = journal.term_at(number)
    have = [name for name in sorted(found) if has_entry(found[name], number, term)]
    told = told_members(journal, number)
    if () not in told:
        # Who committed the entry may have known of members that this machine has not heard of yet.
        for name in have:
            told.extend(told_members(found[name], number))
        if not any([has_most(members, have) for members in told]):
            raise CheckError("a committed entry is not on more than half of the disks")


def told_members(journal, number):
    """Return the members that a journal tells at an entry, and by each later one about members."""
    found = [tuple(journal.members_at(number))]
    for entry in journal.entries[max(0, number - journal.base):]:
        if entry.command[:1] == (MEMBERS,):
            found.append(tuple(entry.command[1]))
    return found


def has_most(members, names):
    """Return True if names are more than half of some members."""
    return 2 * len([one for one in members if one in names]) > len(members)


def has_entry(journal, number, term):
    """Return True if a journal has an entry of a term at a number, or a snapshot after it."""
    if number < journal.base:
        return True
    return number <= journal.last() and journal.term_at(number) == term


def check_shards(cluster):
    """Raise CheckError if two groups keep a shard under the same map."""
    for place in range(SHARDS):
        kept = []
        for group in sorted(cluster.groups):
            number = newest_keeper(cluster, group, place) if group != MAPS else None
            if number is not None:
                if number in kept:
                    raise CheckError("two groups keep a shard under the same map")
                kept.append(number)


def newest_keeper(cluster, group, place):
    """Return the number of the map under which a group's most advanced machine keeps a shard, None if it does not."""
    servers = servers_of(cluster, group)
    if servers == [] or group == MAPS:
        return None
    most = max([server.applied for server in servers])
    for server in servers:
        shard = server.book.shards[place]
        if server.applied == most and shard.state == KEPT:
            return shard.number
    return None


def check_cluster(cluster):
    """Return the number of machines that are up; raise CheckError if they do not agree as they should."""
    for group in sorted(cluster.groups):
        check_leaders(cluster, group)
        check_logs(cluster, group)
        check_committed(cluster, group)
    check_shards(cluster)
    return len(cluster.servers)
