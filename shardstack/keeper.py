"""Keeper: what a machine of a group does with the log: keys and values by shard, answers, locks, shards that move."""

from shardstack.errors import AskError
from shardstack.shards import SHARDS, check_key, first_map, map_from, shard_of
from shardstack.wire import SIGNS

MOST_VALUE = 200

KEPT = "kept"
FROZEN = "frozen"
AWAY = "away"

DONE = ("done",)
OLD = ("old",)
BUSY = ("busy",)
MOVED = ("moved",)
READY = "ready"
OVER = "over"

# What has another number of items than its class is no operation.
SIZES = {"get": 2, "put": 3, "append": 3, "swap": 4, "delete": 2}


def check_operation(operation):
    """Return an operation; raise AskError for another value.

    Operations are ("get", key), ("put", key, value), ("append", key, value), ("swap", key, old, new), where a swap
    puts a new value if the old one is there (None for no key), ("delete", key), and ("all", (operation, ..)) on keys
    of one shard.
    """
    if not isinstance(operation, tuple) or len(operation) == 0:
        raise AskError("an operation is a tuple with a word")
    word = operation[0]
    if not isinstance(word, str):
        raise AskError("an operation begins with a word")
    if word == "all":
        check_all(operation)
    else:
        check_single(operation)
    return operation


def check_all(operation):
    """Raise AskError for an "all" that is none: it has operations but "all", on keys of one shard."""
    if len(operation) != 2 or not isinstance(operation[1], tuple) or len(operation[1]) == 0:
        raise AskError("all goes with a tuple of operations")
    if any([inner[:1] == ("all",) for inner in operation[1] if isinstance(inner, tuple)]):
        raise AskError("all stands in no all")
    for inner in operation[1]:
        check_operation(inner)
    keys = keys_of(operation)
    if any([shard_of(key) != shard_of(keys[0]) for key in keys]):
        raise AskError("the keys are of several shards")


def check_single(operation):
    """Raise AskError for an operation on one key that is none."""
    word = operation[0]
    if word not in SIZES or len(operation) != SIZES[word]:
        raise AskError("there is no such operation")
    check_key(operation[1])
    for value in operation[2:]:
        check_value(value, word == "swap")


def check_value(value, may_lack):
    """Return a value; raise AskError for one that is no text of at most 200 characters that can be sent."""
    if value is None and may_lack:
        return value
    if not isinstance(value, str) or len(value) > MOST_VALUE:
        raise AskError("a value is a text of at most 200 characters")
    if any([sign not in SIGNS for sign in value]):
        raise AskError("a value has a character that cannot be sent")
    return value


def keys_of(operation):
    """Return the keys of an operation, each once, in order."""
    if operation[0] != "all":
        return (operation[1],)
    return keys_of_all(operation[1])


def keys_of_all(operations):
    """Return the keys of operations but "all", each once, in order."""
    found = []
    for operation in operations:
        if operation[1] not in found:
            found.append(operation[1])
    return tuple(found)


def carry(data, operation):
    """Carry out an operation on a table of keys to values and return its answer, which a reader can foretell."""
    word = operation[0]
    if word == "all":
        return ("all", tuple([carry(data, inner) for inner in operation[1]]))
    key = operation[1]
    value = data.get(key)
    if word == "get":
        return ("value", value)
    if word == "append":
        return carry_append(data, key, operation[2])
    if word == "swap" and value != operation[2]:
        return ("value", value)
    new = operation[-1] if word != "delete" else None
    if new is None:
        data.pop(key, None)
    else:
        data[key] = new
    return DONE


def carry_append(data, key, more):
    """Put more behind a key's value, unless that becomes too long, and return the answer."""
    value = data.get(key, "") + more
    if len(value) > MOST_VALUE:
        return ("refused", "too long")
    data[key] = value
    return ("value", value)


class Shard:
    """A shard: "kept", "frozen" (it moves away) or "away", its map's number, its data, answers given, and locks."""

    def __init__(self, state, number):
        self.state = state
        self.number = number
        self.data = {}
        self.sessions = {}
        self.locks = {}
        self.deals = {}
        self.decided = {}

    def tables(self):
        """Return the tables: data, answers given, locks, deals, and deals that are decided here."""
        return (self.data, self.sessions, self.locks, self.deals, self.decided)

    def shown(self):
        """Return (state, number) and the tables as rows in ascending order."""
        return (self.state, self.number) + tuple([rows_of(table) for table in self.tables()])

    def lock_on(self, keys):
        """Return the deal that has locked the first of some keys that is locked, None for none."""
        for key in keys:
            if key in self.locks:
                return self.locks[key]
        return None

    def unlock(self, deal):
        """Let a deal lock nothing any more."""
        self.locks = {key: other for key, other in self.locks.items() if other != deal}


def rows_of(table):
    """Return the (key, value) rows of a table, in ascending order."""
    return tuple([(key, table[key]) for key in sorted(table)])


def shard_from(shown):
    """Return the shard of what it shows."""
    shard = Shard(shown[0], shown[1])
    for table, rows in zip(shard.tables(), shown[2:]):
        for key, value in rows:
            table[key] = value
    return shard


class Keeper:
    """A group's name, its shards, and the map it works by and the one before, as they show."""

    def __init__(self, group):
        self.group = group
        self.map = first_map().shown()
        self.old_map = first_map().shown()
        self.shards = [Shard(AWAY, 0) for _ in range(SHARDS)]

    def apply(self, command):
        """Apply a command of the log and return its answer; what is for the agreement alone changes nothing here."""
        word = command[0]
        if word == "ask":
            return self.ask(command[1], command[2], command[3])
        if word == "map":
            return self.take_map(command[1])
        if word == "install":
            return self.install_shard(command[1], command[2], command[3])
        if word == "drop":
            return self.drop_shard(command[1], command[2])
        if word in ("prepare", "decide", "finish"):
            return self.apply_deal(word, command[1], self.shards[command[2]], command[3])
        return DONE

    def ask(self, client, serial, operation):
        """Carry out a client's operation once, and return its answer."""
        keys = keys_of(check_operation(operation))
        shard = self.shards[shard_of(keys[0])]
        if shard.state != KEPT:
            return MOVED
        if client in shard.sessions:
            last, answer = shard.sessions[client]
            if serial == last:
                return answer
            if serial < last:
                return OLD
        deal = shard.lock_on(keys)
        if deal is not None:
            return ("locked", deal)
        answer = carry(shard.data, operation)
        shard.sessions[client] = (serial, answer)
        return answer

    def read(self, key):
        """Return the answer to a read of a key that is not in the log."""
        shard = self.shards[shard_of(key)]
        if shard.state != KEPT:
            return MOVED
        if key in shard.locks:
            return ("locked", shard.locks[key])
        return ("value", shard.data.get(key))

    def lacking(self):
        """Return the numbers of the shards that the map gives to the group and that have not come yet."""
        places = self.map[1]
        return [at for at in range(SHARDS) if places[at] == self.group and self.shards[at].state != KEPT]

    def frozen(self):
        """Return the numbers of the shards that move away."""
        return [at for at in range(SHARDS) if self.shards[at].state == FROZEN]

    def take_map(self, shown):
        """Work by the next map, if nothing is under way; shards that nobody kept come empty."""
        if shown[0] != self.map[0] + 1:
            return OLD
        if self.frozen() != [] or self.lacking() != []:
            return BUSY
        self.old_map = self.map
        self.map = shown
        for at in range(SHARDS):
            shard = self.shards[at]
            shard.number = shown[0]
            if self.map[1][at] != self.group and shard.state == KEPT:
                shard.state = FROZEN
            elif self.map[1][at] == self.group and self.old_map[1][at] is None:
                shard.state = KEPT
        return DONE

    def install_shard(self, at, number, shown):
        """Keep a shard that came from another group, once."""
        if number != self.map[0] or at not in self.lacking():
            return OLD
        self.shards[at] = shard_from((KEPT, number) + shown[2:])
        return DONE

    def drop_shard(self, at, number):
        """Forget a shard that the other group has."""
        if number != self.map[0] or at not in self.frozen():
            return OLD
        self.shards[at] = Shard(AWAY, number)
        return DONE

    def apply_deal(self, word, deal, shard, told):
        """Apply a step of a deal to a shard; told are its operations, or whether it is good."""
        if shard.state != KEPT:
            return MOVED
        if word == "prepare":
            return prepare(shard, deal, told)
        if word == "finish":
            return finish(shard, deal, told)
        if deal not in shard.decided:
            shard.decided[deal] = told
        return ("decided", shard.decided[deal])

    def shown_shard(self, at, number):
        """Return ("shard", shard, number, what it shows) of a shard that froze under a map, ("old",) for another."""
        if number != self.map[0] or at not in self.frozen():
            return OLD
        return ("shard", at, number, self.shards[at].shown())

    def has_shard(self, at, number):
        """Return ("have", shard, number) if a shard that came under a map is here, or was, ("old",) if not."""
        if number > self.map[0] or (number == self.map[0] and self.shards[at].state != KEPT):
            return OLD
        return ("have", at, number)

    def members_before(self, at):
        """Return the members of the group that kept a shard under the map before."""
        return map_from(self.old_map).groups[self.old_map[1][at]]

    def members_now(self, at):
        """Return the members of the group that the map gives a shard to."""
        return map_from(self.map).groups[self.map[1][at]]

    def make_image(self):
        """Return all that the keeper holds as a value."""
        return (self.map, self.old_map, tuple([shard.shown() for shard in self.shards]))

    def install(self, image):
        """Hold what an image tells."""
        self.map, self.old_map, shards = image
        self.shards = [shard_from(shown) for shown in shards]


def prepare(shard, deal, operations):
    """Lock the keys of a deal's operations in a shard, if all are free, and return the answer."""
    if deal in shard.deals:
        state, told = shard.deals[deal]
        return (READY,) if state == READY else (OVER, told)
    keys = keys_of_all(operations)
    other = shard.lock_on(keys)
    if other is not None:
        return ("locked", other)
    for key in keys:
        shard.locks[key] = deal
    shard.deals[deal] = (READY, operations)
    return (READY,)


def finish(shard, deal, good):
    """Carry out a deal's operations in a shard, or not, unlock its keys, and return the answer: once.

    One that was never prepared here has nothing to carry out, and is not prepared later.
    """
    state, told = shard.deals.get(deal, (None, None))
    if state == OVER:
        return (OVER, told)
    answers = None
    if good and state == READY:
        answers = tuple([carry(shard.data, operation) for operation in told])
    shard.unlock(deal)
    shard.deals[deal] = (OVER, answers)
    return (OVER, answers)
