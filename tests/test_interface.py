"""The interface: names and arguments as the document lists them, defined where it lists them, and the fields."""

import importlib
import inspect
import unittest

from shardstack.client import Client
from shardstack.cluster import Administrator, Cluster
from shardstack.console import Console
from shardstack.disk import Disk
from shardstack.engine import Engine, Run
from shardstack.filters import Counts, Filter, Tops
from shardstack.gossip import Crowd, View
from shardstack.hashtree import HashTree
from shardstack.journal import Entry, Journal
from shardstack.keeper import Keeper, Shard
from shardstack.lease import DriftClock, Granter, Guarded, Holder
from shardstack.linear import Operation
from shardstack.locks import LockTable
from shardstack.merge import Register
from shardstack.net import Net
from shardstack.placing import Part, Place, Planner
from shardstack.queues import Shares, Tenant, Work, WorkQueue
from shardstack.raft import Agreement
from shardstack.server import Server
from shardstack.shards import MapBook, ShardMap, first_map
from shardstack.tables import Follower, Index, Table
from shardstack.versions import Dealing, Versions
from shardstack.workflows import Workflow

FUNCTIONS = {
    "wire": ("natural(number)", "pack(value, depth=0)", "sign_number(sign)", "unpack(data)", "sum_of_bytes(data)",
             "four(number)", "frame(value)", "read_frames(data)"),
    "journal": ("read_journal(disk, members)",),
    "shards": ("check_key(key)", "shard_of(key)", "first_map()", "map_from(shown)", "balanced(places, groups)",
               "changed_map(old, change)"),
    "keeper": ("check_operation(operation)", "check_value(value, may_lack)", "keys_of(operation)",
               "carry(data, operation)", "rows_of(table)", "shard_from(shown)"),
    "client": ("check_wish(wish)",),
    "linear": ("carry_wish(data, wish)", "operations_of(history)", "first_ones(operations, left)",
               "is_before(operation, time)", "linear_order(operations)", "is_linear(history)"),
    "inspect": ("journals(cluster, group)", "check_leaders(cluster, group)", "check_logs(cluster, group)",
                "check_pair(one, other)", "check_committed(cluster, group)", "has_most(members, names)",
                "has_entry(journal, number, term)", "check_shards(cluster)", "newest_keeper(cluster, group, place)",
                "check_cluster(cluster)"),
    "hashtree": ("hash_of(value)", "part_of(key, level)", "differing_ways(one, other)", "differing_keys(one, other)",
                 "bring_together(one, other)"),
    "merge": ("greatest(one, other)",),
    "trace": ("machine_digest(cluster, name)", "digest(cluster)", "event_word(choice)", "trace_text(choices)",
              "choice_of(line)", "parse_trace(text)", "rerun(groups, seed, limit, wishes, choices)"),
    "console": ("deal_part(text)", "value_text(value)", "answer_text(answer)", "map_text(answer)",
                "history_lines(history)", "wish_text(wish)"),
    "lease": ("waiting_time(length)",),
    "engine": ("joined_runs(newer, older)", "engine_from(disk, most=8)"),
    "versions": ("is_within(key, low, high)",),
    "placing": ("moves_between(old, new)",),
    "tables": ("restored(data, time)", "backup_rows(data)"),
}

CLASSES = {
    "disk.Disk": ("", "arm(steps)", "append(value)", "sync()", "records()", "replace(name, value, records)",
                  "read_file(name)", "crash(many)", "restart()"),
    "journal.Entry": ("term, command", "shown()"),
    "journal.Journal": ("disk, members", "last()", "last_term()", "term_at(number)", "entry(number)",
                        "after(number, many)", "members()", "members_at(number)", "set_term(term, vote)", "add(entries)",
                        "cut(number)", "take_image(number, image)", "install(number, term, members, image)",
                        "same_after(number, entries)"),
    "raft.Agreement": ("name, journal, seed", "members()", "others()", "is_majority(names)", "send(target, message)",
                       "take_outbox()", "tick()", "follow(term, leader)", "receive(message)", "propose(command)",
                       "begin_read()", "is_confirmed(turn, term)", "compact(number, image)"),
    "shards.ShardMap": ("number, places, groups", "shown()", "group_of(key)", "shards_of(group)"),
    "shards.MapBook": ("", "apply(command)", "answer_to(operation)", "make_image()", "install(image)"),
    "keeper.Shard": ("state, number", "tables()", "shown()"),
    "keeper.Keeper": ("group", "apply(command)", "ask(client, serial, operation)", "read(key)", "lacking()",
                      "make_image()", "install(image)"),
    "server.Server": ("name, group, members, map_members, disk, seed, limit=12", "tick()", "receive(message)",
                      "begin_read(source, number, key)", "take_outbox()"),
    "net.Net": ("", "send(source, target, value)", "is_cut(one, other)", "cut(names, part)", "heal()", "take(place)",
                "drop(place)", "repeat(place)", "forget(name)"),
    "client.Client": ("name, map_members, wishes", "is_done()", "begin(wish)", "ask()", "receive(message, time)",
                      "follow(leader)", "end(answer, time)", "take_outbox()"),
    "cluster.Cluster": ("groups, seed=1, limit=12", "group_of(name)", "names()", "start(name)", "crash(name, many=0)",
                        "add_client(name, wishes)", "guarded(name, work)", "tick(name)", "act(choice)",
                        "settle(most=4000)", "go_round()", "rounds(many)", "add_machine(group, name)",
                        "leader_of(group)", "change_members(group, members, most=300)",
                        "propose_members(name, members)", "history()", "change_map(change, most=4000)"),
    "cluster.Administrator": ("members", "want(change)", "is_done()", "receive(message, time)", "take_outbox()"),
    "linear.Operation": ("client, wish, asked, answered, answer",),
    "hashtree.HashTree": ("table, levels=3", "way_of(key)", "root()", "set_row(key, value)"),
    "gossip.View": ("name, names", "tick()", "news()", "hear(news)", "state_of(name)", "names_in(state)",
                    "forget_dead()"),
    "gossip.Crowd": ("names, seed=1", "partner(name)", "tell_round()", "set_down(name, down)", "agree_on(name)"),
    "merge.Counter": ("rises=(), falls=()", "add(machine, number)", "total()", "merged(other)", "shown()"),
    "merge.Register": ("value=None, time=0, machine=''", "assign(machine, time, value)", "merged(other)", "shown()"),
    "merge.Members": ("tags=(), dropped=()", "add(machine, number, member)", "discard(member)", "has(member)",
                      "all_members()", "merged(other)", "shown()"),
    "merge.Stamp": ("counts=()", "tick(machine)", "merged(other)", "stands_before(other)", "compare(other)", "shown()"),
    "console.Console": ("groups, seed=1", "enter(line)", "ask(wish)"),
    "lease.DriftClock": ("rate, start=0", "at(time)"),
    "lease.Granter": ("clock", "ask(name, length, time)", "give_back(name, number)"),
    "lease.Holder": ("name, clock", "begin(length, time)", "granted(turn, number)", "holds(time)", "drop()"),
    "lease.Guarded": ("", "act(number, what)"),
    "filters.Filter": ("bits, ways", "add(value)", "may_have(value)", "joined(other)", "shown()"),
    "filters.Counts": ("width, ways", "add(value, many=1)", "at_most(value)", "joined(other)"),
    "filters.Tops": ("many", "add(value)", "top()"),
    "engine.Run": ("rows", "has(key)"),
    "engine.Engine": ("disk, most=8", "put(key, value)", "sync()", "flush()", "compact()", "value_of(key)",
                      "scan(low, high)"),
    "versions.Dealing": ("number, start, strict",),
    "versions.Versions": ("", "begin(strict=False)", "value_at(key, time)", "table_at(time)", "read(deal, key)",
                          "scan(deal, low, high)", "write(deal, key, value)", "changed_since(key, time)",
                          "conflicts(deal)", "commit(deal)", "drop(deal)", "trim(time)", "changes(low, high)"),
    "locks.LockTable": ("", "ask(owner, key, mode)", "mode_of(owner, key)", "number_of(owner, key)",
                        "release(owner, key)", "leave(owner)", "waits_for(owner)", "ring()"),
    "placing.Place": ("name, zone, room",),
    "placing.Part": ("name, weight, copies",),
    "placing.Planner": ("machines, parts", "plan(old)", "may_hold(part, name, rows)", "best_for(part, rows)"),
    "queues.Work": ("number, body, time",),
    "queues.WorkQueue": ("length", "put(body, time, wait=0)", "take(time)", "holds(number, receipt, time)",
                         "done(number, receipt, time)", "give_back(number, receipt, time)",
                         "longer(number, receipt, time)"),
    "queues.Tenant": ("weight",),
    "queues.Shares": ("", "add(name, weight)", "put(name, size, body)", "next_work()"),
    "workflows.Workflow": ("disk, steps", "note(word, step)", "state_of(step)", "end()", "go(doer, undoer)"),
    "tables.Index": ("name, place, single", "field(value)", "move(key, old, new)", "clash(changes, table)"),
    "tables.Follower": ("prefix, time",),
    "tables.Table": ("", "add_index(name, place, single=False)", "commit(deal)", "look_up(name, low, high)",
                     "follow(name, prefix)", "hear(name)", "backup()", "changes_backup(time)"),
}


def fields():
    """Return objects, and each field with the class that it is of."""
    text, table, row, rows, many, truth, none = str, dict, tuple, list, int, bool, type(None)
    journal = Journal(Disk(), ("a", "b"))
    return (
        (Disk(), {"kept": row, "waiting": row, "syncs": many, "fuse": none, "down": truth, "files": table}),
        (Entry(1, ("x",)), {"term": many, "command": row}),
        (journal, {"term": many, "vote": none, "base": many, "base_term": many, "base_members": row, "image": none,
                   "entries": rows, "disk": Disk}),
        (Agreement("a", journal, 1), {"name": text, "journal": Journal, "part": text, "leader": none, "committed": many,
                                      "turn": many, "clock": many, "matched": table, "following": table}),
        (first_map(), {"number": many, "places": row, "groups": table}),
        (MapBook(), {"maps": rows}),
        (Shard("away", 0), {"state": text, "number": many, "data": table, "sessions": table, "locks": table,
                            "deals": table, "decided": table}),
        (Keeper("g"), {"group": text, "map": row, "old_map": row, "shards": rows}),
        (Server("a", "g", ("a",), ("m",), Disk(), 1), {"name": text, "group": text, "agreement": Agreement,
                                                       "book": Keeper, "applied": many, "waiting": table}),
        (Net(), {"messages": rows, "parts": table, "sent": many, "lost": many}),
        (Client("u", ("m",), [("get", "a")]), {"name": text, "map": ShardMap, "events": rows, "number": many, "asked": many,
                                               "turn": many, "wishes": rows}),
        (Cluster({"maps": ("m",)}), {"groups": table, "disks": table, "servers": table, "clients": table, "net": Net,
                                     "time": many, "admin": Administrator}),
        (Administrator(("m",)), {"name": text, "events": rows, "asked": many, "turn": many}),
        (Operation("u", ("get", "a"), 1, None, None), {"wish": row, "asked": many, "answered": none, "answer": none}),
        (HashTree({"a": 1}, 2), {"levels": many, "rows": table, "hashes": table}),
        (View("a", ("a", "b")), {"name": text, "time": many, "rows": table}),
        (Crowd(("a", "b")), {"views": table, "down": table, "turn": many}),
        (Register(), {"value": none, "time": many, "machine": text}),
        (Console({"maps": ("m",)}), {"cluster": Cluster, "asked": many}),
    ) + later_fields()


def later_fields():
    """Return the same of what does not need a cluster."""
    text, table, row, rows, many, truth, none = str, dict, tuple, list, int, bool, type(None)
    clock = DriftClock((1, 1))
    return (
        (clock, {"begun": many}),
        (Granter(clock), {"clock": DriftClock, "holder": none, "number": many}),
        (Holder("a", clock), {"name": text, "clock": DriftClock, "number": none, "asked": none, "turn": many}),
        (Guarded(), {"acts": rows}),
        (Filter(64, 3), {"size": many, "ways": many}),
        (Counts(64, 3), {"rows": table, "whole": many}),
        (Tops(2), {"many": many, "missed": many}),
        (Run((("a", 1),)), {"rows": row, "table": table}),
        (Engine(Disk()), {"memory": table, "runs": rows}),
        (Dealing(1, 0, True), {"number": many, "sees": many, "strict": truth, "goes_on": truth}),
        (Versions(), {"rows": table, "time": many, "trimmed": many, "deals": table, "next_number": many}),
        (LockTable(), {"held": table, "waits": table}),
        (Place("a", "z", 1), {"name": text}),
        (Part("p", 1, 2), {"name": text, "copies": many}),
        (Planner([Place("a", "z", 1)], [Part("p", 1, 2)]), {"parts": rows, "left": table}),
        (Work(1, "x", 0), {"number": many, "body": text, "ready": many, "takes": many, "receipt": none}),
        (WorkQueue(5), {"rows": table, "given_up": rows, "next_number": many}),
        (Tenant(1), {"waits": rows, "point": many}),
        (Shares(), {"tenants": table, "point": many}),
        (Workflow(Disk(), ("a",)), {"rows": rows}),
        (Index("i", 0, True), {"name": text, "by_field": table}),
        (Follower("", 0), {"time": many}),
        (Table(), {"versions": Versions, "indexes": table}),
    )


def told(function, is_method):
    """Return a function's parameters as the document writes them."""
    found = [str(one) for one in inspect.signature(function).parameters.values()]
    return ", ".join(found[1:] if is_method else found)


class Interface(unittest.TestCase):
    def test_functions(self):
        for name, lines in FUNCTIONS.items():
            module = importlib.import_module("shardstack." + name)
            for line in lines:
                function = vars(module)[line.split("(")[0]]
                self.assertEqual(function.__module__, module.__name__)
                self.assertEqual(function.__name__ + "(" + told(function, False) + ")", line)

    def test_classes(self):
        for name, lines in CLASSES.items():
            module = importlib.import_module("shardstack." + name.split(".")[0])
            found = vars(module)[name.split(".")[1]]
            self.assertEqual((found.__module__, found.__name__), (module.__name__, name.split(".")[1]))
            self.assertEqual(told(found.__init__, True), lines[0])
            for line in lines[1:]:
                method = vars(found)[line.split("(")[0]]
                self.assertEqual(method.__name__ + "(" + told(method, True) + ")", line)

    def test_fields(self):
        for one, names in fields():
            for name, kind in names.items():
                self.assertIs(type(vars(one)[name]), kind, (type(one).__name__, name))

    def test_constants(self):
        shards = importlib.import_module("shardstack.shards")
        self.assertEqual((shards.SHARDS, shards.MAPS), (8, "maps"))
        engine, queues = importlib.import_module("shardstack.engine"), importlib.import_module("shardstack.queues")
        self.assertEqual((engine.FILTER_BITS, engine.FILTER_WAYS, queues.MOST_TAKES), (64, 3, 3))

    def test_no_object_shares_its_tables_with_another(self):
        for (one, names), (other, _) in zip(fields(), fields()):
            for name, kind in names.items():
                if kind in (dict, list):
                    self.assertIsNot(getattr(one, name), getattr(other, name))

    def test_maps_are_made_of_what_is_told(self):
        one = ShardMap(1, ("g",) * 8, {"g": ("a",)})
        self.assertEqual((one.number, one.places, one.groups), (1, ("g",) * 8, {"g": ("a",)}))


if __name__ == "__main__":
    unittest.main()
