"""Points [8] and [10]: groups that give shards to each other while messages are lost and machines go down.

Each user appends tokens that are used once and reads: the values of a key must grow from answer to answer.
"""

import random
import unittest

from shardstack.disk import Disk
from shardstack.errors import StoreError
from shardstack.net import Net
from shardstack.server import Server
from shardstack.shards import MapBook, map_from, shard_of

GROUPS = {"maps": ("m1", "m2", "m3"), "g": ("g1", "g2", "g3"), "h": ("h1", "h2", "h3"), "i": ("i1",)}
KEYS = ("a", "b", "c", "d", "e", "f", "g", "h")


class User:
    """A user that asks for one thing after another until each is answered."""

    def __init__(self, name, draw):
        self.name = name
        self.draw = draw
        self.map = map_from((0, (None,) * 8, ()))
        self.serial = 0
        self.number = 0
        self.turn = 0
        self.patience = 0
        self.told = None
        self.wish = None
        self.events = []
        self.outbox = []

    def begin(self, wish, time):
        """Begin to ask; a wish is ("append", key, token), ("read", key) or ("change", change)."""
        self.wish = wish
        self.asked = time
        if wish[0] != "read":
            self.serial += 1
        self.ask()

    def ask(self):
        """Ask a machine that may know, or the maps' group for the newest map."""
        self.number += 1
        self.turn += 1
        self.patience = 6
        command = ("ask", self.name, self.serial, self.wish)
        group = "maps" if self.wish[0] == "change" else self.map.group_of(self.wish[1])
        if self.wish[0] == "read":
            command = self.wish
        if group is None or (group != "maps" and self.turn % 4 == 0):
            group, command = "maps", ("map", None)
        members = GROUPS["maps"] if group == "maps" else self.map.groups[group]
        target = self.told if self.told in members else members[self.turn % len(members)]
        self.told = None
        self.outbox.append((target, ("request", self.name, self.number, command)))

    def receive(self, message, time):
        """Use the answer to what was asked last."""
        _, number, answer, _ = message
        if self.wish is None or number != self.number:
            return
        self.patience = 0
        if answer[0] == "map" and self.wish[0] != "change":
            if answer[1][0] > self.map.number:
                self.map = map_from(answer[1])
        elif answer[0] == "follow":
            self.told = answer[1]
        elif answer[0] not in ("moved", "old"):
            self.events.append((self.wish, self.asked, time, answer))
            self.wish = None


class Store:
    """All machines and users, and a net between them."""

    def __init__(self, test, seed, users):
        self.test = test
        self.draw = random.Random(seed)
        self.seed = seed
        self.net = Net()
        self.time = 0
        self.group = {name: group for group, names in GROUPS.items() for name in names}
        self.disks = {name: Disk() for name in self.group}
        self.servers = {}
        self.users = {name: User(name, self.draw) for name in users + ("admin",)}
        self.tokens = 0
        for name in self.group:
            self.start(name)

    def start(self, name):
        if self.disks[name].down:
            self.disks[name].restart()
        group = self.group[name]
        self.servers[name] = Server(name, group, GROUPS[group], GROUPS["maps"], self.disks[name], self.seed, 6)

    def crash(self, name):
        self.disks[name].crash(self.draw.randrange(60))
        del self.servers[name]

    def work(self, name, task):
        server = self.servers[name]
        try:
            task(server)
        except StoreError:
            self.crash(name)
            return
        for target, message in server.take_outbox():
            self.net.send(name, target, message)

    def deliver(self, place):
        _, target, message = self.net.take(place)
        self.time += 1
        if target in self.servers:
            self.work(target, lambda server: server.receive(message))
        elif target in self.users:
            self.users[target].receive(message, self.time)

    def go_on(self, user, is_new=True):
        """Let a user ask again, or ask for something new."""
        self.time += 1
        user.patience -= 1
        if user.wish is not None and user.patience < 0:
            user.ask()
        elif user.wish is not None:
            return
        elif is_new:
            user.begin(self.wish(user), self.time)
        for target, message in user.outbox:
            self.net.send(user.name, target, message)
        user.outbox = []

    def wish(self, user):
        draw = self.draw
        if user.name == "admin":
            group = draw.choice(("g", "h", "i"))
            return ("change", draw.choice((("join", group, GROUPS[group]), ("join", group, GROUPS[group]), ("leave", group),
                                           ("move", draw.randrange(8), group))))
        key = draw.choice(KEYS)
        if draw.randrange(3) == 0:
            return ("read", key)
        self.tokens += 1
        return ("append", key, "(" + str(self.tokens) + ")")

    def event(self):
        draw = self.draw
        name = draw.choice(sorted(self.disks))
        many = len(self.net.messages)
        word = draw.choices(("deliver", "tick", "user", "admin", "drop", "repeat", "crash", "start", "arm", "cut", "heal"),
                            (60, 22, 18, 3, 2, 2, 0.4, 8, 0.8, 0.5, 4))[0]
        if word == "deliver" and many:
            for _ in range(4):
                if self.net.messages:
                    self.deliver(draw.randrange(min(30, len(self.net.messages))))
        elif word == "user":
            self.go_on(self.users[draw.choice(sorted(set(self.users) - {"admin"}))])
        elif word == "admin":
            self.go_on(self.users["admin"])
        elif word == "drop" and many:
            self.net.drop(draw.randrange(many))
        elif word == "repeat" and 0 < many < 300:
            self.net.repeat(draw.randrange(many))
        elif word == "cut":
            self.net.cut((name,), draw.randrange(1, 3))
        elif word == "heal":
            self.net.heal()
        elif word == "start" and name not in self.servers:
            self.start(name)
        elif word == "arm" and name in self.servers:
            self.disks[name].arm(draw.randrange(7))
        elif word == "crash" and name in self.servers:
            self.crash(name)
        elif word == "tick" and name in self.servers:
            for _ in range(3):
                if name in self.servers:
                    self.work(name, lambda server: server.tick())

    def go_round(self):
        for _ in range(len(self.net.messages)):
            self.deliver(0)
        for name in sorted(self.servers):
            self.work(name, lambda server: server.tick())
        for name in sorted(self.users):
            if self.users[name].wish is not None:
                self.go_on(self.users[name], False)

    def settle(self):
        """Let all be up and reach each other until all is answered and all shards are where they belong."""
        self.net.heal()
        for name in sorted(self.disks):
            self.disks[name].arm(None)
            if name not in self.servers:
                self.start(name)
        admin = self.users["admin"]
        for number in range(2000):
            self.go_round()
            if number == 50 and admin.wish is None:
                admin.begin(("change", ("join", "g", GROUPS["g"])), self.time)
            waiting = [one for one in self.users.values() if one.wish is not None]
            if number > 60 and not waiting and self.is_still():
                return
        self.test.fail("not all is answered")

    def is_still(self):
        """Return True if all machines of all groups work by the newest map, and nothing is under way."""
        newest = max(self.servers[name].book.maps[-1].number for name in GROUPS["maps"])
        keepers = [server.book for server in self.servers.values() if not isinstance(server.book, MapBook)]
        self.check_kept(keepers)
        return all(one.map[0] == newest and not one.lacking() and not one.frozen() for one in keepers)

    def check_kept(self, keepers):
        """No two groups keep a shard under the same map."""
        for shard in range(8):
            kept = {(one.map[0], one.group) for one in keepers if one.shards[shard].state == "kept"}
            self.test.assertEqual(len(kept), len({number for number, _ in kept}))

    def check_values(self):
        """The values of each key grow, and each token is there once, if its append was answered."""
        events = [event for user in self.users.values() for event in user.events if event[0][0] != "change"]
        for key in KEYS:
            own = [event for event in events if event[0][1] == key]
            values = {}
            for wish, asked, answered, answer in own:
                self.test.assertEqual(answer[0], "value", answer)
                value = answer[1] or ""
                values[len(value)] = value
                if wish[0] == "append":
                    self.test.assertTrue(value.endswith(wish[2]))
                for other, _, before, told in own:
                    if before < asked:
                        self.test.assertGreaterEqual(len(value), len(told[1] or "") + len(wish[2] if wish[0] == "append" else ""))
            longest = values[max(values)] if values else ""
            for _, _, _, answer in own:
                self.test.assertTrue(longest.startswith(answer[1] or ""))
            final = self.final_value(key)
            self.test.assertTrue(final.startswith(longest))
            for wish, _, _, _ in own:
                if wish[0] == "append":
                    self.test.assertEqual(final.count(wish[2]), 1)
        return len(events)

    def final_value(self, key):
        """Return a key's value where it is kept; who lags behind in the group has a beginning of it."""
        found = [server.book.read(key)[1] or "" for server in self.servers.values()
                 if not isinstance(server.book, MapBook) and server.book.shards[shard_of(key)].state == "kept"]
        longest = max(found, key=len)
        self.test.assertTrue(all(longest.startswith(value) for value in found))
        return longest


class Together(unittest.TestCase):
    def test_groups_that_give_shards_to_each_other(self):
        events = moves = lost = 0
        for seed in range(1, 11):
            store = Store(self, seed, ("u", "v", "w"))
            for number in range(6000):
                store.event()
                if number % 100 == 0:
                    store.check_kept([server.book for server in store.servers.values() if server.group != "maps"])
            store.settle()
            events += store.check_values()
            moves += store.servers["m1"].book.maps[-1].number
            lost += store.net.lost
        self.assertGreater(events, 500)
        self.assertGreater(moves, 100)
        self.assertGreater(lost, 500)


if __name__ == "__main__":
    unittest.main()
