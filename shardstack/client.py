"""Client: a user's operations, one after another, each asked until it is answered, and a record of when."""

from shardstack.errors import AskError
from shardstack.keeper import READY, check_operation, keys_of
from shardstack.shards import first_map, map_from, shard_of

# So many turns a client waits for an answer before it asks again: an answer takes about four.
PATIENCE = 7
# So many turns it waits where it is told to come later.
PAUSE = 1
# So many turns it meets the lock of a deal before it takes its owner for gone: a deal on all shards takes about 70.
MOST_LOCKED = 80
# So often it asks a group in vain before it asks for a newer map.
MOST_SILENCES = 3


def check_wish(wish):
    """Return a wish: an operation, ("read", key), ("near", key), or ("deal", (operation, ..)); raise AskError."""
    if not isinstance(wish, tuple) or len(wish) < 2:
        raise AskError("a wish is a tuple with a word and what it is about")
    word = wish[0]
    if not isinstance(word, str):
        raise AskError("a wish begins with a word")
    if word == "deal":
        check_deal(wish)
    elif word in ("read", "near"):
        check_operation(("get",) + wish[1:])
    else:
        check_operation(wish)
    return wish


def check_deal(wish):
    """Raise AskError for a deal that is none: it has operations but "all"."""
    if len(wish) != 2 or not isinstance(wish[1], tuple) or len(wish[1]) == 0:
        raise AskError("a deal goes with a tuple of operations")
    for operation in wish[1]:
        if isinstance(operation, tuple) and operation[:1] == ("all",):
            raise AskError("all stands in no deal")
        check_operation(operation)


def shards_in(operations):
    """Return the numbers of the shards that operations are about, in ascending order."""
    return sorted({shard_of(operation[1]) for operation in operations})


def deal_answers(operations, answers):
    """Return the answers of a deal in the order of its operations, of the answers by shard."""
    found = []
    taken = {}
    for operation in operations:
        shard = shard_of(operation[1])
        at = taken.get(shard, 0)
        found.append(answers[shard][at])
        taken[shard] = at + 1
    return tuple(found)


def with_outcome(command, deal, good):
    """Return a command; one that finishes a deal now tells how that was decided."""
    if command[0] == "finish" and command[1] == deal:
        return ("finish", deal, command[2], good)
    return command


class Client:
    """A client's name, its wishes, the map it knows, what it is doing, and the events so far.

    An event is (wish's number, wish, time of asking, time of the answer or None, answer or None). What is to be done
    for the wish under way are steps: rows (shard, command), the first of which is asked for until it is answered.
    """

    def __init__(self, name, map_members, wishes):
        self.name = name
        self.map_members = tuple(map_members)
        self.wishes = [check_wish(wish) for wish in wishes]
        self.map = first_map()
        self.events = []
        self.number = 0
        self.asked = 0
        self.turn = 0
        self.passed = 0
        self.time = 0
        self.serial = 0
        self.is_reborn = False
        self.steps = []
        self.group = None
        self.target = None
        self.awaits = False
        self.patience = 0
        self.silences = 0
        self.wants_map = False
        self.leaders = {}
        self.places = {}
        self.known = {}
        self.attempt = 0
        self.deal = None
        self.good = False
        self.answers = {}
        self.met = {}
        self.outbox = []

    def is_done(self):
        """Return True if all wishes are answered."""
        return self.steps == [] and self.number >= len(self.wishes)

    def take_outbox(self):
        """Return the (target, message) pairs to be sent, and empty the outbox."""
        found = self.outbox
        self.outbox = []
        return found

    def go_on(self, time):
        """Let a turn pass: begin the next wish, or ask again for what was not answered for long."""
        self.time = time
        self.passed = self.passed + 1
        if self.steps == []:
            if self.number < len(self.wishes):
                self.begin(self.wishes[self.number])
            return
        self.patience = self.patience - 1
        if self.patience <= 0:
            if self.awaits:
                self.hear_nothing()
            self.ask()

    def hear_nothing(self):
        """Ask another machine the next time, and for a newer map now and then: the group may be another one."""
        self.leaders.pop(self.group, None)
        self.turn = self.turn + 1
        self.silences = self.silences + 1
        self.wants_map = self.silences % MOST_SILENCES == 0

    def begin(self, wish):
        """Plan the steps of a wish, and ask for the first one."""
        check_wish(wish)
        self.number = self.number + 1
        self.events.append((self.number, wish, self.time, None, None))
        self.attempt = 0
        self.met = {}
        self.silences = 0
        self.steps = self.plan(wish)
        self.ask()

    def plan(self, wish):
        """Return the steps of a wish."""
        word = wish[0]
        if word == "deal":
            return self.plan_deal(wish[1])
        if word == "near":
            # Another machine each time: each may answer.
            self.turn = self.turn + 1
        if word in ("read", "near"):
            return [(shard_of(wish[1]), wish)]
        self.serial = self.serial + 1
        return [(shard_of(keys_of(wish)[0]), ("ask", self.name, self.serial, wish))]

    def plan_deal(self, operations):
        """Return the steps of the next attempt of a deal.

        All prepare in ascending order, so that of deals that meet each other the foremost one goes on.
        """
        self.attempt = self.attempt + 1
        self.answers = {}
        self.good = False
        shards = shards_in(operations)
        deal = (self.name, self.number, self.attempt, shards[0])
        self.deal = deal
        steps = []
        for shard in shards:
            own = tuple([operation for operation in operations if shard_of(operation[1]) == shard])
            steps.append((shard, ("prepare", deal, shard, own)))
        steps.append((shards[0], ("decide", deal, shards[0], True)))
        return steps + [(shard, ("finish", deal, shard, True)) for shard in shards]

    def ask(self):
        """Ask for the step under way, or for the newest map if its shard has no group."""
        if self.steps == []:
            return
        shard, command = self.steps[0]
        self.group = None if self.wants_map else self.map.places[shard]
        if self.group is None:
            self.request(self.map_members, None, ("map", None))
            return
        if command[0] == "near":
            command = self.near_command(shard, command[1])
        leader = self.leaders.get(self.group) if command[0] != "near" else None
        self.request(self.map.groups[self.group], leader, command)

    def near_command(self, shard, key):
        """Return the command of a near read: not from before what was answered to this client."""
        if self.known.get(shard, self.group) != self.group:
            # What another group answered has no place in this one's log, and the map may be an old one: only who
            # leads knows whether the shard is here.
            return ("read", key)
        return ("near", key, self.places.get(self.group, 0), self.map.number)

    def request(self, members, leader, command):
        """Ask the leader, or if it is not known the member whose turn it is."""
        self.patience = PATIENCE
        if leader is None:
            if len(members) == 0:
                return
            leader = members[self.turn % len(members)]
        self.asked = self.asked + 1
        self.awaits = True
        self.target = leader
        self.outbox.append((leader, ("request", self.name, self.asked, command)))

    def receive(self, message, time):
        """Use an answer, if it is to what was asked last."""
        if message[0] != "reply" or message[1] != self.asked or not self.awaits:
            return
        _, _, answer, place = message
        self.time = time
        self.awaits = False
        self.silences = 0
        word = answer[0]
        if word == "follow":
            self.follow(answer[1])
        elif word == "map":
            self.take_map(answer[1])
        elif word == "moved":
            self.wants_map = True
            self.ask()
        elif word == "locked":
            self.meet(answer[1])
        elif word == "old" or self.is_reborn:
            self.renumber(word == "old")
        else:
            self.note_place(place)
            self.use(answer, place, time)

    def follow(self, leader):
        """Ask the leader that a machine named, or another machine later."""
        if leader is None:
            self.leaders.pop(self.group, None)
            self.turn = self.turn + 1
            self.patience = PAUSE
        elif leader == self.target:
            # A machine that names itself cannot answer yet.
            self.patience = PAUSE
        else:
            self.leaders[self.group] = leader
            self.ask()

    def take_map(self, shown):
        """Know a newer map, and ask by it; where there is none, ask by the old one later."""
        self.wants_map = False
        self.patience = PAUSE
        self.turn = self.turn + 1
        if shown[0] > self.map.number:
            self.map = map_from(shown)
            self.leaders = {}
            self.ask()

    def renumber(self, is_old):
        """Ask with the next serial: this one was used by an earlier client of the same name.

        Its last serial comes behind those that are old: the answer to that one is not to this client, either.
        """
        self.is_reborn = is_old
        self.serial = self.serial + 1
        shard, command = self.steps[0]
        self.steps[0] = (shard, ("ask", self.name, self.serial, command[3]))
        self.ask()

    def note_place(self, place):
        """Note up to where the group has applied its log: no later near read is from before."""
        self.places[self.group] = max(place, self.places.get(self.group, 0))
        self.known[self.steps[0][0]] = self.group

    def use(self, answer, place, time):
        """Use a group's answer to the step under way."""
        shard, command = self.steps[0]
        word = command[0]
        if word == "prepare" and answer[0] != READY:
            # Somebody decided it off already.
            self.give_up()
            self.ask()
        elif word == "prepare":
            self.next_step(time)
        elif word == "decide":
            self.use_decision(command, answer[1], time)
        elif word == "finish":
            if command[1] == self.deal:
                self.answers[shard] = answer[1]
            self.next_step(time)
        elif word == "near":
            self.end(("near", answer[1], place), time)
        else:
            self.end(answer, time)

    def meet(self, other):
        """Meet the lock of another deal: an own one gives up, and a lock that stays is freed; else wait."""
        shard, command = self.steps[0]
        is_deal = command[0] == "prepare"
        self.met[other] = self.met.get(other, self.passed)
        stays = self.passed - self.met[other] >= MOST_LOCKED
        if is_deal:
            self.give_up()
        if stays:
            self.met.pop(other)
            freeing = [(other[3], ("decide", other, other[3], False)), (shard, ("finish", other, shard, False))]
            self.steps = freeing + self.steps
        self.patience = PAUSE
        if is_deal or stays:
            self.ask()

    def give_up(self):
        """Unlock what the own deal may have locked: all up to the shard under way.

        Nobody else decides it good, so there is nothing to decide.
        """
        last, command = self.steps[0]
        operations = self.events[-1][1][1]
        shards = [shard for shard in shards_in(operations) if shard <= last]
        self.steps = [(shard, ("finish", command[1], shard, False)) for shard in shards]

    def use_decision(self, command, good, time):
        """Go on by what was decided, whoever came first."""
        deal = command[1]
        if deal == self.deal:
            self.good = good
        self.steps = [(shard, with_outcome(step, deal, good)) for shard, step in self.steps]
        self.next_step(time)

    def next_step(self, time):
        """Ask for the next step; behind the last one a deal is done, or begins again later."""
        del self.steps[0]
        if self.steps != []:
            self.ask()
            return
        operations = self.events[-1][1][1]
        if self.good:
            self.end(("deal", deal_answers(operations, self.answers)), time)
        else:
            self.patience = PAUSE
            self.steps = self.plan_deal(operations)

    def end(self, answer, time):
        """Note the answer of the wish under way."""
        number, wish, asked, _, _ = self.events[-1]
        self.events[-1] = (number, wish, asked, time, answer)
        self.steps = []
        self.awaits = False
