"""Agreement: machines of a group that elect a leader and agree on a log."""

from shardstack.errors import MachineError
from shardstack.journal import MEMBERS, Entry
from shardstack.wire import sign_number

FOLLOWER = "follower"
CANDIDATE = "candidate"
LEADER = "leader"

NOTHING = ("nothing",)

MOST_ENTRIES = 5
ROUND_TICKS = 3
LEAST_WAIT = 8
WAITS = 8

# A message with another number of items than its class has is an unknown one.
SIZES = {"ask": 5, "vote": 4, "entries": 8, "accept": 6, "image": 8}


def name_number(name):
    """Return a name's number, by which the draws of machines with one seed differ."""
    number = 0
    for sign in name:
        number = 97 * number + sign_number(sign) + 1
    return number


class Agreement:
    """A machine's journal, its part, whom it follows, what is committed, and what is to be sent.

    Messages are rows: ("ask", term, from, last number, last term), ("vote", term, from, granted),
    ("entries", term, from, number before, its term, ((term, command), ..), committed, round),
    ("accept", term, from, success, number, round) and
    ("image", term, from, number, its term, members, snapshot, round).
    """

    def __init__(self, name, journal, seed):
        self.name = name
        self.journal = journal
        self.seed = seed
        self.number = name_number(name)
        self.part = FOLLOWER
        self.leader = None
        self.committed = journal.base
        self.turn = 0
        self.clock = 0
        self.is_needed = False
        self.strangers = {}
        self.votes = {}
        self.matched = {}
        self.following = {}
        self.heard = {}
        self.outbox = []
        self.wait_anew()

    def members(self):
        """Return the members of the group, by the journal."""
        return self.journal.members()

    def others(self):
        """Return the other members, in ascending order."""
        return sorted([one for one in self.members() if one != self.name])

    def is_majority(self, names):
        """Return True if names are more than half of the members."""
        members = self.members()
        return 2 * len([one for one in members if one in names]) > len(members)

    def send(self, target, message):
        """Put a message into the outbox."""
        self.outbox.append((target, message))

    def take_outbox(self):
        """Return what is to be sent, as (target, message) pairs, and empty the outbox."""
        found = self.outbox
        self.outbox = []
        return found

    def wait_anew(self):
        """Draw after how many ticks without a leader this machine stands."""
        self.seed = (self.seed * 1103515245 + 12345 + 2 * self.number) % 2147483648
        self.clock = LEAST_WAIT + self.seed // 65536 % WAITS

    def tick(self):
        """Let a tick of time pass: a leader sends again, others begin an election when they heard nothing for long."""
        self.clock = self.clock - 1
        if self.clock > 0:
            return
        if self.part == LEADER:
            self.clock = ROUND_TICKS
            self.begin_round()
        elif self.is_needed or self.name in self.members():
            self.stand()

    def stand(self):
        """Stand in the next term, and ask the others for their votes."""
        self.journal.set_term(self.journal.term + 1, self.name)
        self.part = CANDIDATE
        self.leader = None
        self.is_needed = False
        self.votes = {self.name: True}
        self.wait_anew()
        message = ("ask", self.journal.term, self.name, self.journal.last(), self.journal.last_term())
        for other in self.others():
            self.send(other, message)
        if self.is_majority(self.votes):
            self.lead()

    def lead(self):
        """Lead the group: an entry of the own term lets those before it be committed."""
        self.part = LEADER
        self.leader = self.name
        self.clock = ROUND_TICKS
        self.heard = {}
        self.matched = {}
        self.following = {}
        self.journal.add((Entry(self.journal.term, NOTHING),))
        self.begin_round()
        self.commit()

    def hearers(self):
        """Return whom a leader sends its log to, in ascending order: the others, and strangers."""
        return sorted(self.others() + [one for one in self.strangers if one not in self.members()])

    def know_others(self):
        """Begin to keep count of those that are not yet known, from the last entry on."""
        for other in self.hearers():
            if other not in self.following:
                self.matched[other] = 0
                self.following[other] = self.journal.last()

    def begin_round(self):
        """Begin a round: whoever answers it, or a later one, still follows this machine."""
        self.turn = self.turn + 1
        self.know_others()
        for other in self.hearers():
            self.send_log(other)

    def send_log(self, target):
        """Send a machine the entries that come next for it, or the snapshot if it is behind the base."""
        journal = self.journal
        before = self.following[target] - 1
        if before < journal.base:
            self.send(target, ("image", journal.term, self.name, journal.base, journal.base_term,
                               journal.base_members, journal.image, self.turn))
            return
        rows = tuple([entry.shown() for entry in journal.after(before, MOST_ENTRIES)])
        self.send(target, ("entries", journal.term, self.name, before, journal.term_at(before), rows,
                           self.committed, self.turn))

    def follow(self, term, leader):
        """Become a follower in a term; an earlier vote in the same term stays."""
        if term != self.journal.term:
            self.journal.set_term(term, None)
        # A leader's clock counts its rounds, so one that leads no more has to draw a wait.
        if self.part == LEADER or leader is not None:
            self.wait_anew()
            self.is_needed = False
        self.part = FOLLOWER
        self.leader = leader

    def receive(self, message):
        """Handle a message; raise MachineError for an unknown one."""
        word = message[0] if len(message) > 0 else None
        if word not in SIZES or len(message) != SIZES[word]:
            raise MachineError("an unknown message")
        if message[1] > self.journal.term:
            self.follow(message[1], None)
        if word == "ask":
            self.hear_ask(message)
        elif word == "vote":
            self.hear_vote(message)
        elif word == "entries":
            self.hear_entries(message)
        elif word == "accept":
            self.hear_accept(message)
        else:
            self.hear_image(message)

    def hear_ask(self, message):
        """Vote for a candidate, if that may be, and answer."""
        _, term, source, number, last_term = message
        is_behind = (last_term, number) < (self.journal.last_term(), self.journal.last())
        granted = term == self.journal.term and self.journal.vote in (None, source) and not is_behind
        # Who asks takes this machine for a member. If the entry that says otherwise is known here alone, and nobody
        # else can lead without this vote, only this machine can bring that entry to the others.
        self.is_needed = self.is_needed or (term == self.journal.term and is_behind)
        # One that is no member any more and has not heard so stands again and again, until a leader tells it.
        if is_behind and source not in self.members():
            self.strangers[source] = True
        if granted:
            if self.journal.vote is None:
                self.journal.set_term(term, source)
            self.wait_anew()
        self.send(source, ("vote", self.journal.term, self.name, granted))

    def hear_vote(self, message):
        """Count a vote; lead with the votes of more than half of the members."""
        _, term, source, granted = message
        if term == self.journal.term and self.part == CANDIDATE and granted and source in self.others():
            self.votes[source] = True
            if self.is_majority(self.votes):
                self.lead()

    def accept(self, target, success, number, turn):
        """Answer a leader up to which entry this machine has its log, or where it may go on."""
        self.send(target, ("accept", self.journal.term, self.name, success, number, turn))

    def hear_entries(self, message):
        """Take over a leader's entries that follow the own ones."""
        _, term, source, before, before_term, rows, committed, turn = message
        if term < self.journal.term:
            self.accept(source, False, self.journal.last(), turn)
            return
        self.follow(term, source)
        if not self.has_before(before, before_term):
            self.accept(source, False, min(self.journal.last(), before - 1), turn)
            return
        self.take_entries(before, rows)
        number = before + len(rows)
        self.committed = max(self.committed, min(committed, number))
        self.accept(source, True, number, turn)

    def has_before(self, number, term):
        """Return True if the log has an entry of a term at a number; what the base covers is the same for all."""
        if number < self.journal.base:
            return True
        return number <= self.journal.last() and self.journal.term_at(number) == term

    def take_entries(self, before, rows):
        """Add the rows after a number that are not there yet; entries that contradict them go."""
        journal = self.journal
        begin = max(before, journal.base)
        rows = rows[begin - before:]
        same = journal.same_after(begin, rows)
        if same == len(rows):
            return
        if begin + same < journal.last():
            journal.cut(begin + same + 1)
        journal.add(rows[same:])

    def hear_accept(self, message):
        """Note what a follower has, commit what may be, and send what comes next."""
        _, term, source, success, number, turn = message
        if term != self.journal.term or self.part != LEADER or source not in self.following:
            return
        self.heard[source] = max(turn, self.heard.get(source, 0))
        if success:
            self.matched[source] = max(self.matched[source], min(number, self.journal.last()))
            self.following[source] = self.matched[source] + 1
            if self.matched[source] == self.journal.last():
                self.strangers.pop(source, None)
            self.commit()
        else:
            # A late answer may tell of less than what is known to be there.
            known = self.matched[source] + 1
            self.following[source] = max(known, min(self.following[source] - 1, number + 1))
        if self.part == LEADER and source in self.hearers() and self.following[source] <= self.journal.last():
            self.send_log(source)

    def commit(self):
        """Commit the last entry of the own term that more than half of the members have, with all before it."""
        journal = self.journal
        number = journal.last()
        while number > self.committed and journal.term_at(number) == journal.term:
            if self.is_majority([self.name] + [one for one in self.matched if self.matched[one] >= number]):
                self.committed = number
                if self.name not in journal.members_at(number):
                    self.follow(journal.term, None)
                return
            number = number - 1

    def hear_image(self, message):
        """Take over a leader's snapshot, if it tells of more than what is committed here."""
        _, term, source, number, its_term, members, image, turn = message
        if term < self.journal.term:
            self.accept(source, False, self.journal.last(), turn)
            return
        self.follow(term, source)
        if number > self.committed:
            self.journal.install(number, its_term, members, image)
            self.committed = number
        self.accept(source, True, number, turn)

    def propose(self, command):
        """Add a command to the log and return its number; raise MachineError if this machine is no leader."""
        if self.part != LEADER:
            raise MachineError("this machine does not lead")
        if command[:1] == (MEMBERS,) and not self.may_change(command[1]):
            raise MachineError("the members cannot change so now")
        before = self.others()
        self.journal.add((Entry(self.journal.term, command),))
        number = self.journal.last()
        self.know_others()
        # A member that goes is told so, too, lest it stand against the others.
        for other in sorted(before + [one for one in self.others() if one not in before]):
            self.send_log(other)
        self.commit()
        return number

    def may_change(self, members):
        """Return True if the members may be others now: they differ by one, and the last change is committed."""
        old = self.members()
        changed = [one for one in members if one not in old] + [one for one in old if one not in members]
        is_settled = self.journal.members_at(self.committed) == old and self.has_committed()
        return len(changed) == 1 and is_settled

    def has_committed(self):
        """Return True if the last committed entry is of the current term."""
        return self.journal.term_at(self.committed) == self.journal.term

    def begin_read(self):
        """Return (number, round) for a read: it may be served once that is applied and the round is confirmed."""
        if self.part != LEADER or not self.has_committed():
            raise MachineError("this machine cannot serve reads")
        self.begin_round()
        return (self.committed, self.turn)

    def is_confirmed(self, turn, term):
        """Return True if more than half of the members answered a round, or a later one, in a term."""
        if self.part != LEADER or term != self.journal.term or turn > self.turn:
            return False
        return self.is_majority([self.name] + [one for one in self.heard if self.heard[one] >= turn])

    def compact(self, number, image):
        """Let a snapshot of what is applied up to a number stand for the entries; raise MachineError."""
        if not self.journal.base < number <= self.committed:
            raise MachineError("a snapshot stands for committed entries after the base")
        self.journal.take_image(number, image)
