"""Points [1], [11] and [12]: whole runs. At the end all is answered, in a linear order, and where the map tells."""

import random
import unittest

from shardstack.cluster import EVENTS, Cluster
from shardstack.inspect import check_cluster
from shardstack.linear import is_linear
from shardstack.shards import shard_of

KEYS = ("a", "b", "c", "d", "e", "f")
# Keys to which texts are only appended: what is read of them grows.
GROWING = ("A", "B", "C")
# Fewer machines go down than in a run of numbers that are drawn evenly, so that more is done meanwhile.
GENTLE = (6, 6, 6, 6, 6, 6, 6, 6, 1, 1, 0.25, 3, 0.3, 2, 0.3, 6)
EVEN = (1,) * 16


def members_of(many, *names):
    """Return groups with so many machines each, the maps' among them."""
    return {name: tuple(f"{name}{number}" for number in range(1, many + 1)) for name in ("maps",) + names}


class Run:
    """A cluster, its clients, and what is drawn for them."""

    def __init__(self, test, seed, groups, clients=3, wishes=14, limit=12, weights=GENTLE, first=("g",)):
        self.test = test
        self.draw = random.Random(seed)
        self.groups = groups
        self.weights = weights
        self.count = 0
        self.cluster = Cluster(groups, seed, limit)
        for group in first:
            self.cluster.change_map(("join", group, groups[group]))
        for number in range(clients):
            self.cluster.add_client(f"u{number}", [self.wish() for _ in range(wishes)])

    def token(self):
        self.count += 1
        return f"<{self.count}>"

    def operation(self):
        key = self.draw.choice(KEYS)
        word = self.draw.choice(("get", "put", "append", "swap", "delete", "grow"))
        if word == "grow":
            return ("append", self.draw.choice(GROWING), self.token())
        return {"get": ("get", key), "put": ("put", key, self.token()), "append": ("append", key, self.token()),
                "swap": ("swap", key, None, self.token()), "delete": ("delete", key)}[word]

    def wish(self):
        word = self.draw.choices(("operation", "read", "near", "all", "deal"), (8, 3, 4, 1, 4))[0]
        if word == "operation":
            return self.operation()
        if word == "all":
            key = self.draw.choice(KEYS)
            return ("all", (("get", key), ("append", key, self.token())))
        if word == "deal":
            return ("deal", tuple(self.operation() for _ in range(self.draw.randrange(1, 5))))
        return (word, self.draw.choice(KEYS + GROWING))

    def act(self, many, each=None):
        """Let events happen, and look at the machines now and then."""
        for number in range(many):
            word = self.draw.choices(range(16), self.weights)[0]
            self.cluster.act(word + 16 * self.draw.randrange(1 << 20))
            if each is not None:
                each(number)
            if number % 60 == 0:
                check_cluster(self.cluster)

    def change_map(self, number):
        """Ask for a change of the map now and then."""
        if number % 300 or not self.cluster.admin.is_done():
            return
        names = sorted(set(self.groups) - {"maps"})
        group = self.draw.choice(names)
        change = self.draw.choice((("join", group, self.groups[group]), ("leave", group),
                                   ("move", self.draw.randrange(8), group)))
        self.cluster.admin.want(change)

    def change_members(self, number):
        """Let a machine join or leave its group now and then; the first one stays."""
        group = self.draw.choice(sorted(set(self.groups) - {"maps"}))
        name = self.cluster.leader_of(group)
        if number % 40 or name is None:
            return
        have = self.cluster.servers[name].agreement.members()
        one = self.draw.choice(self.cluster.groups[group][1:])
        new = tuple(sorted(have + (one,))) if one not in have else tuple(each for each in have if each != one)
        self.cluster.propose_members(name, new)

    def end(self):
        """Settle, and look at all that was promised."""
        self.cluster.settle()
        self.check_answers()
        for _ in range(60):
            self.cluster.rounds(10)
            if self.is_still():
                break
        else:
            self.test.fail("the shards do not come where they belong")
        self.cluster.rounds(20)
        self.test.assertEqual(check_cluster(self.cluster), len(self.cluster.names()))
        self.check_shards()

    def check_answers(self):
        history = self.cluster.history()
        for client in self.cluster.clients.values():
            self.test.assertEqual(len(client.events), len(client.wishes))
        self.test.assertEqual([row for row in history if row[4] is None], [])
        self.test.assertTrue(is_linear(history))
        for name, client in self.cluster.clients.items():
            self.check_growing(client.events)

    def check_growing(self, events):
        """For one client nothing is ever from before its own operations, or what it read."""
        known = dict.fromkeys(GROWING, "")
        for _, wish, _, _, answer in events:
            pairs = zip(wish[1], answer[1]) if wish[0] == "deal" else ((wish, answer),)
            for operation, told in pairs:
                if operation[1] in GROWING and told[0] in ("value", "near"):
                    self.test.assertTrue((told[1] or "").startswith(known[operation[1]]), (operation, told, known))
                    known[operation[1]] = told[1] or ""

    def members(self, group):
        name = self.cluster.leader_of(group)
        return () if name is None else self.cluster.servers[name].agreement.members()

    def newest(self):
        books = [self.cluster.servers[name].book for name in self.groups["maps"]]
        return max((book.maps[-1] for book in books), key=lambda one: one.number)

    def is_still(self):
        """Return True if each group works by the newest map, and nothing lacks."""
        newest = self.newest()
        for group in set(self.groups) - {"maps"}:
            members = self.members(group)
            keepers = [self.cluster.servers[name].book for name in members]
            if not members or any(one.map[0] != newest.number or one.lacking() for one in keepers):
                return False
        return True

    def check_shards(self):
        """Each shard is where the newest map tells and nowhere else, unlocked, and each appended text stands once."""
        newest = self.newest()
        found = {}
        for group in set(self.groups) - {"maps"}:
            for name in self.members(group):
                shards = self.cluster.servers[name].book.shards
                self.test.assertEqual([shard.state == "kept" for shard in shards],
                                      [place == group for place in newest.places])
                for shard in shards:
                    self.test.assertEqual(shard.locks, {})
                    for key, value in shard.data.items():
                        self.test.assertEqual(found.setdefault(key, value), value)
        told = [operation for _, _, wish, _, _, answer in self.cluster.history()
                for operation, one in (zip(wish[1], answer[1]) if wish[0] == "deal" else ((wish, answer),))
                if operation[0] == "append" and operation[1] in GROWING and one[0] == "value"]
        for _, key, text in told:
            self.test.assertEqual(found[key].count(text), 1)
        for key in GROWING:
            texts = [text for _, one, text in told if one == key]
            self.test.assertEqual(len(found.get(key, "")), sum(len(text) for text in texts))

    def done(self):
        return sum(event[4] is not None for client in self.cluster.clients.values() for event in client.events)


class Whole(unittest.TestCase):
    def run_many(self, seeds, groups, many, each=(), more=(), **how):
        done = 0
        for seed in seeds:
            run = Run(self, seed, groups, **how)
            for group, name in more:
                run.cluster.add_machine(group, name)

            def after(number):
                for task in each:
                    task(run, number)

            run.act(many, after)
            done += run.done()
            run.end()
        return done

    def test_the_keys_lie_apart(self):
        self.assertGreater(len({shard_of(key) for key in KEYS + GROWING}), 4)

    def test_one_group_of_three(self):
        self.assertGreater(self.run_many(range(1, 9), members_of(3, "g"), 4000), 100)

    def test_one_group_of_five(self):
        self.assertGreater(self.run_many(range(11, 16), members_of(5, "g"), 4000), 40)

    def test_one_group_of_one(self):
        self.run_many(range(21, 24), members_of(1, "g"), 2000)

    def test_even_events(self):
        self.run_many(range(31, 39), members_of(3, "g", "h"), 4000, (Run.change_map,), weights=EVEN)

    def test_maps_that_change(self):
        self.assertGreater(self.run_many(range(41, 51), members_of(3, "g", "h"), 5000, (Run.change_map,)), 100)

    def test_three_groups_with_short_logs(self):
        self.run_many(range(61, 67), members_of(3, "g", "h", "i"), 4000, (Run.change_map,), limit=1, first=("g", "i"))

    def test_members_that_change(self):
        more = (("g", "g8"), ("g", "g9"), ("h", "h9"))
        self.run_many(range(71, 81), members_of(3, "g", "h"), 5000, (Run.change_map, Run.change_members), more)

    def test_more_than_half_go_down_again_and_again(self):
        for seed in range(91, 95):
            run = Run(self, seed, members_of(3, "g", "h"), first=("g", "h"))
            for number in range(30):
                run.act(60)
                for group in run.groups:
                    for name in run.draw.sample(run.groups[group], 2):
                        if name in run.cluster.servers:
                            run.cluster.crash(name, run.draw.randrange(40))
                run.act(20)
                for name in run.cluster.names():
                    if name not in run.cluster.servers:
                        run.cluster.start(name)
            run.end()

    def test_a_new_cluster_upon_the_same_disks(self):
        for seed in range(101, 106):
            run = Run(self, seed, members_of(3, "g", "h"))
            run.act(2500, lambda number: run.change_map(number))
            old = run.cluster
            # Whoever asked is gone; what they wanted may have come about or not, and locks may be left.
            new = Cluster(run.groups, seed + 1)
            for name in new.names():
                if name in old.servers:
                    old.crash(name, seed % 40)
                new.crash(name)
                new.disks[name] = old.disks[name]
                new.start(name)
            for client in old.clients:
                rows = [event[:5] for event in old.clients[client].events]
                new.add_client(client, [])
                new.clients[client].events = rows
            new.time = old.time
            for number in range(3):
                new.add_client(f"v{number}", [run.wish() for _ in range(10)])
            run.cluster = new
            new.settle()
            self.assertTrue(is_linear(new.history()))
            self.assertTrue(all(new.clients[f"v{number}"].is_done() for number in range(3)))
            self.assertEqual(check_cluster(new), 9)
            new.rounds(300)
            self.assertTrue(run.is_still())

    def test_locks_of_a_client_that_is_gone_are_freed(self):
        cluster = Cluster(members_of(3, "g"))
        cluster.change_map(("join", "g", members_of(3, "g")["g"]))
        cluster.rounds(20)
        for good, value in ((None, None), (True, "9")):
            shard = shard_of("a")
            deal = ("ghost", 1, 1 if good else 2, shard)
            for command in (("prepare", deal, shard, (("put", "a", "9"),)), ("decide", deal, shard, good)):
                if command[-1] is not None:
                    cluster.net.send("ghost", cluster.leader_of("g"), ("request", "ghost", 1, command))
                    cluster.rounds(10)
            self.assertEqual(cluster.servers[cluster.leader_of("g")].book.read("a"), ("locked", deal))
            for number, wish in enumerate((("read", "a"), ("near", "a"), ("get", "a"), ("deal", (("get", "a"),)))):
                cluster.add_client(f"{good}{number}", [wish])
            cluster.settle()
            found = [cluster.clients[f"{good}{number}"].events[0][4] for number in range(4)]
            self.assertEqual([found[0], found[1][1], found[2], found[3]],
                             [("value", value), value, ("value", value), ("deal", (("value", value),))])

    def test_all_words_happen(self):
        run = Run(self, 1, members_of(3, "g"), weights=EVEN)
        seen = set()
        act = run.cluster.act

        def noted(choice):
            seen.add(EVENTS[choice % 16])
            act(choice)

        run.cluster.act = noted
        run.act(300)
        self.assertEqual(seen, set(EVENTS))


if __name__ == "__main__":
    unittest.main()
