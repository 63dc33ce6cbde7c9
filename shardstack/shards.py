"""Shards: which shard a key belongs to, and maps that tell which group keeps each shard."""

from shardstack.errors import AskError, MapError
from shardstack.wire import SIGNS, sign_number

SHARDS = 8
MAPS = "maps"
MOST_KEY = 30
KEY_LIMIT = 65521

# A change with another number of items than its class has is an unknown one.
CHANGES = {"join": 3, "leave": 2, "move": 3}


def check_key(key):
    """Return a key; raise AskError for one that is no text of 1 to 30 characters that can be sent."""
    if not isinstance(key, str) or not 0 < len(key) <= MOST_KEY:
        raise AskError("a key has 1 to 30 characters")
    if any([sign not in SIGNS for sign in key]):
        raise AskError("a key has a character that cannot be sent")
    return key


def shard_of(key):
    """Return the number of a key's shard."""
    number = 0
    for sign in check_key(key):
        number = (31 * number + sign_number(sign)) % KEY_LIMIT
    return number % SHARDS


class ShardMap:
    """A map's number, the group of each shard (None for none), and the members of each group."""

    def __init__(self, number, places, groups):
        self.number = number
        self.places = places
        self.groups = groups

    def shown(self):
        """Return (number, places, ((group, members), ..) in ascending order)."""
        return (self.number, self.places, tuple([(group, self.groups[group]) for group in sorted(self.groups)]))

    def group_of(self, key):
        """Return the group that keeps a key, None for none."""
        return self.places[shard_of(key)]

    def shards_of(self, group):
        """Return the numbers of a group's shards, in ascending order."""
        return [shard for shard in range(SHARDS) if self.places[shard] == group]


def first_map():
    """Return the map without groups."""
    return ShardMap(0, (None,) * SHARDS, {})


def map_from(shown):
    """Return the map of what it shows."""
    number, places, groups = shown
    return ShardMap(number, places, {group: members for group, members in groups})


def balanced(places, groups):
    """Return places with shards given to groups evenly, moving as few as needed, the least group first among equals."""
    given = [place if place in groups else None for place in places]
    names = sorted(groups)
    if len(names) == 0:
        return tuple(given)
    for shard in range(len(given)):
        if given[shard] is None:
            given[shard] = fewest_of(given, names)
    low = fewest_of(given, names)
    high = most_of(given, names)
    while given.count(high) - given.count(low) > 1:
        given[last_of(given, high)] = low
        low = fewest_of(given, names)
        high = most_of(given, names)
    return tuple(given)


def fewest_of(given, names):
    """Return the name with the fewest shards, the least one among equals; names are in ascending order."""
    found = names[0]
    for name in names:
        if given.count(name) < given.count(found):
            found = name
    return found


def most_of(given, names):
    """Return the name with the most shards, the greatest one among equals; names are in ascending order."""
    found = names[0]
    for name in names:
        if given.count(name) >= given.count(found):
            found = name
    return found


def last_of(given, name):
    """Return the last shard that a name is given."""
    return max([shard for shard in range(len(given)) if given[shard] == name])


def changed_map(old, change):
    """Return the map after ("join", group, members), ("leave", group) or ("move", shard, group); raise MapError."""
    word = change[0] if len(change) > 0 else None
    if word not in CHANGES or len(change) != CHANGES[word]:
        raise MapError("an unknown change")
    groups = {group: old.groups[group] for group in old.groups}
    if word == "move":
        return ShardMap(old.number + 1, moved_places(old, change[1], change[2]), groups)
    if word == "join":
        if change[1] in groups or len(change[2]) == 0 or change[1] == MAPS:
            raise MapError("the group is there, or has no members")
        groups[change[1]] = tuple(change[2])
    else:
        if change[1] not in groups:
            raise MapError("there is no such group")
        if len(groups) == 1:
            raise MapError("no group would be left")
        del groups[change[1]]
    return ShardMap(old.number + 1, balanced(old.places, groups), groups)


def moved_places(old, shard, group):
    """Return the places of a map after one shard went to a group; raise MapError."""
    if group not in old.groups or not 0 <= shard < SHARDS:
        raise MapError("there is no such group or shard")
    return old.places[:shard] + (group,) + old.places[shard + 1:]


class MapBook:
    """All maps so far, as a machine applies changes to them."""

    def __init__(self):
        self.maps = [first_map()]
        self.sessions = {}

    def apply(self, command):
        """Apply ("ask", client, number, ("change", change)) or (.., ("map", number)) once, and return the answer.

        Other commands of the log change nothing here.
        """
        if command[0] != "ask":
            return ("done",)
        _, client, number, operation = command
        if client in self.sessions:
            last, answer = self.sessions[client]
            if number == last:
                return answer
            if number < last:
                return ("old",)
        answer = self.answer_to(operation)
        self.sessions[client] = (number, answer)
        return answer

    def answer_to(self, operation):
        """Carry out an operation and return its answer."""
        if operation[0] == "change":
            return self.change(operation[1])
        return ("map", self.map_at(operation[1]).shown())

    def change(self, change):
        """Add the map after a change and return the answer; one that cannot be is refused."""
        try:
            self.maps.append(changed_map(self.maps[-1], change))
        except MapError:
            return ("refused", "map")
        return ("map", self.maps[-1].shown())

    def map_at(self, number):
        """Return the map of a number, the newest one where there is none."""
        if number is None or not 0 <= number < len(self.maps):
            return self.maps[-1]
        return self.maps[number]

    def make_image(self):
        """Return all that the book holds as a value."""
        answers = tuple([(client, self.sessions[client]) for client in sorted(self.sessions)])
        return (tuple([one.shown() for one in self.maps]), answers)

    def install(self, image):
        """Hold what an image tells."""
        maps, answers = image
        self.maps = [map_from(shown) for shown in maps]
        self.sessions = {client: answer for client, answer in answers}
