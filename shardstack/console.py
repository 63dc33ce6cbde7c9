"""Console: a cluster moved by lines of text, and histories as lines."""

from shardstack.cluster import Cluster
from shardstack.errors import AskError, CheckError, MachineError, ShardError, TextError
from shardstack.inspect import check_cluster
from shardstack.linear import is_linear
from shardstack.wire import SIGNS

NONE = "-"
DONE = "done"

ASK_WORDS = ("get", "read", "put", "append", "swap", "delete")
WAITS = {"1": 1, "10": 10, "50": 50, "100": 100}
PLACES = {"0": 0, "1": 1, "2": 2, "3": 3, "4": 4, "5": 5, "6": 6, "7": 7}

# So many rounds a line waits for its answer. Elections, maps and shards that move take far fewer.
MOST_ROUNDS = 1000


class Console:
    """A cluster, the client's name that the next line gets, and how many lines asked for something."""

    def __init__(self, groups, seed=1):
        self.cluster = Cluster(groups, seed)
        self.asked = 0
        self.name = "user1"

    def enter(self, line):
        """Carry out a line and return its answer as text; "error: " and a word for one that cannot be."""
        try:
            return self.carry_out(line)
        except (TextError, AskError):
            return "error: text"
        except CheckError:
            return "error: check"
        except ShardError:
            return "error: machine"

    def carry_out(self, line):
        """Carry out a line and return its answer as text."""
        words = words_of(line)
        word = words[0]
        if word == "deal":
            parts = line.partition("deal")[2].split(";")
            return answer_text(self.ask(("deal", tuple([deal_part(part) for part in parts]))))
        if word in ASK_WORDS:
            return answer_text(self.ask(tuple([word] + [value_of(text) for text in words[1:]])))
        if word in ("join", "leave", "move"):
            return map_text(self.cluster.change_map(self.change_of(words), MOST_ROUNDS))
        if word in ("crash", "start", "cut"):
            return self.move_machines(word, words[1:])
        if word == "wait":
            check_words(len(words) == 2 and words[1] in WAITS)
            self.cluster.rounds(WAITS[words[1]])
            return DONE
        check_words(len(words) == 1 and word in ("heal", "leaders", "check"))
        if word == "leaders":
            return self.leader_line()
        if word == "check":
            return self.check()
        self.cluster.net.heal()
        return DONE

    def ask(self, wish):
        """Ask with a new client and go round until it is answered; raise MachineError if no answer comes."""
        name = self.name
        self.cluster.add_client(name, [wish])
        self.asked = self.asked + 1
        self.name = f"user{self.asked + 1}"
        client = self.cluster.clients[name]
        for _ in range(MOST_ROUNDS):
            self.cluster.go_round()
            if client.is_done():
                return client.events[-1][4]
        raise MachineError("no answer comes")

    def change_of(self, words):
        """Return the change of the map that words tell."""
        word = words[0]
        if word == "move":
            check_words(len(words) == 3 and words[1] in PLACES)
            return ("move", PLACES[words[1]], words[2])
        check_words(len(words) == 2)
        if word == "leave":
            return ("leave", words[1])
        return ("join", words[1], self.cluster.groups.get(words[1], ()))

    def move_machines(self, word, names):
        """Let a machine go down or come up, or cut machines off from all others."""
        check_words(len(names) == 1 or (word == "cut" and len(names) > 1))
        for name in names:
            self.cluster.group_of(name)
        if word == "crash":
            self.cluster.crash(names[0])
        elif word == "start":
            self.cluster.start(names[0])
        else:
            self.cluster.net.cut(names, 1)
        return DONE

    def leader_line(self):
        """Return who leads each group."""
        groups = sorted(self.cluster.groups)
        return " ".join([f"{group}={value_text(self.cluster.leader_of(group))}" for group in groups])

    def check(self):
        """Return how many machines are up, if they agree and the history has a linear order; else raise CheckError."""
        many = check_cluster(self.cluster)
        if not is_linear(self.cluster.history()):
            raise CheckError("the history has no linear order")
        return f"{many} up, linear"


def words_of(line):
    """Return the words of a line; raise TextError for one without words, or with characters that cannot be sent."""
    if any([sign not in SIGNS for sign in line]):
        raise TextError("a line has a character that cannot be sent")
    words = line.split()
    if words == []:
        raise TextError("a line begins with a word")
    return words


def check_words(is_right):
    """Raise TextError for words that are none."""
    if not is_right:
        raise TextError("there is no such line")


def value_of(text):
    """Return the value that a word tells, None for "-"."""
    return None if text == NONE else text


def deal_part(text):
    """Return the operation of a part of a deal; raise TextError for another text."""
    words = text.split()
    if len(words) < 2:
        raise TextError("a part of a deal is an operation")
    return tuple([words[0]] + [value_of(word) for word in words[1:]])


def value_text(value):
    """Return a value as text, "-" for none."""
    return NONE if value is None else value


def answer_text(answer):
    """Return an answer as text."""
    if answer is None:
        return NONE
    word = answer[0]
    if word in ("value", "near"):
        return value_text(answer[1])
    if word in ("deal", "all"):
        return "; ".join([answer_text(one) for one in answer[1]])
    if word == "map":
        return map_text(answer)
    return " ".join(answer)


def map_text(answer):
    """Return a map's answer as text: its number, and the group of each shard."""
    if answer[0] != "map":
        return "error: map"
    number, places, _ = answer[1]
    return f"map {number}: " + " ".join([value_text(place) for place in places])


def history_lines(history):
    """Return a line for each event of a history: who, when asked, when answered, what, and the answer."""
    found = []
    for client, _, wish, asked, answered, answer in history:
        when = NONE if answered is None else str(answered)
        found.append(f"{client} {asked} {when} {wish_text(wish)} -> {answer_text(answer)}")
    return found


def wish_text(wish):
    """Return a wish as text."""
    if wish[0] in ("deal", "all"):
        return wish[0] + " " + "; ".join([wish_text(operation) for operation in wish[1]])
    return " ".join([value_text(word) for word in wish])
