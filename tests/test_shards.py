"""Point [6]: keys and shards, maps, how shards are spread, the book of maps."""

import itertools
import random
import unittest

from shardstack.errors import AskError, MapError
from shardstack.shards import (MAPS, SHARDS, MapBook, ShardMap, balanced, changed_map, check_key, first_map, map_from,
                               shard_of)
from shardstack.wire import pack, unpack

ROW = "\n" + "".join(chr(number) for number in range(32, 127) if number != 37)


def joined(*names):
    """Return the map after groups joined, one after another."""
    found = first_map()
    for name in names:
        found = changed_map(found, ("join", name, (name + "1", name + "2")))
    return found


def moved(old, new):
    """Return how many shards are in another place."""
    return len([1 for one, other in zip(old, new) if one != other])


class Keys(unittest.TestCase):
    def test_sizes(self):
        self.assertEqual((SHARDS, MAPS), (8, "maps"))

    def test_check_key(self):
        for key in ("a", "x" * 30, " ", "\n", "~", "a b&c", "0"):
            self.assertEqual(check_key(key), key)
        for key in ("", "x" * 31, "x" * 300, "%", "a%", "\t", "\r", "\x7f", "\xe4", "\u20ac", 7, 0, None, (), ("a",), b"a",
                    ["a"]):
            with self.assertRaises(AskError):
                check_key(key)
            with self.assertRaises(AskError):
                shard_of(key)

    def test_shards_by_hand(self):
        # "a" is 65: by 8 it is 1. "ab" is 31 * 65 + 66 = 2081: by 8 it is 1. "b" is 66.
        for key, shard in (("a", 1), ("b", 2), ("h", 0), ("ab", 1), ("ba", 7), ("\n", 0), (" ", 1), ("&", 6), ("~", 6)):
            self.assertEqual(shard_of(key), shard)

    def test_long_keys(self):
        for key in ("x" * 30, "~" * 30, "some longer key with words", "zzz", "key7"):
            number = 0
            for sign in key:
                number = (31 * number + ROW.index(sign)) % 65521
            self.assertEqual(shard_of(key), number % 8)

    def test_each_shard_has_keys(self):
        self.assertEqual({shard_of("k" + str(number)) for number in range(40)}, set(range(8)))


class Maps(unittest.TestCase):
    def test_first_map(self):
        first = first_map()
        self.assertEqual((first.number, first.places, first.groups), (0, (None,) * 8, {}))
        self.assertEqual(first.shown(), (0, (None,) * 8, ()))
        self.assertEqual((first.group_of("a"), first.shards_of("g")), (None, []))

    def test_shown(self):
        one = ShardMap(3, ("g", "h") * 4, {"h": ("h1",), "g": ("g2", "g1")})
        self.assertEqual(one.shown(), (3, ("g", "h") * 4, (("g", ("g2", "g1")), ("h", ("h1",)))))
        self.assertEqual((one.group_of("a"), one.group_of("b")), ("h", "g"))
        self.assertEqual((one.shards_of("g"), one.shards_of("h"), one.shards_of("x")), ([0, 2, 4, 6], [1, 3, 5, 7], []))
        found = map_from(one.shown())
        self.assertIsInstance(found, ShardMap)
        self.assertEqual((found.number, found.places, found.groups), (one.number, one.places, one.groups))
        self.assertEqual(unpack(pack(one.shown())), one.shown())
        with self.assertRaises(AskError):
            one.group_of("")

    def test_joins_by_hand(self):
        self.assertEqual(joined("g").places, ("g",) * 8)
        self.assertEqual(joined("g", "h").places, ("g",) * 4 + ("h",) * 4)
        # h gives 7, then g gives 3: then two have three each and i has two.
        self.assertEqual(joined("g", "h", "i").places, ("g", "g", "g", "i", "h", "h", "h", "i"))
        # i comes before the others by name, but still the greatest of those with the most gives.
        self.assertEqual(joined("g", "h", "b").places, ("g", "g", "g", "b", "h", "h", "h", "b"))
        self.assertEqual(joined("h", "g").places, ("h",) * 4 + ("g",) * 4)

    def test_leaves_by_hand(self):
        found = changed_map(joined("g", "h", "i"), ("leave", "h"))
        # 4, 5 and 6 go to i (two), then to g among equals (three each), then to i.
        self.assertEqual(found.places, ("g", "g", "g", "i", "i", "g", "i", "i"))
        found = changed_map(joined("g", "h"), ("leave", "g"))
        self.assertEqual((found.places, found.groups), (("h",) * 8, {"h": ("h1", "h2")}))

    def test_changes_count(self):
        one = joined("g", "h")
        self.assertEqual(one.number, 2)
        self.assertEqual(one.groups, {"g": ("g1", "g2"), "h": ("h1", "h2")})
        two = changed_map(one, ("move", 0, "h"))
        self.assertEqual((two.number, two.places), (3, ("h", "g", "g", "g", "h", "h", "h", "h")))
        self.assertEqual((one.number, one.places), (2, ("g",) * 4 + ("h",) * 4))
        self.assertEqual(changed_map(two, ("move", 0, "h")).shown()[1:], two.shown()[1:])
        self.assertEqual(changed_map(two, ("move", 7, "g")).places, ("h", "g", "g", "g", "h", "h", "h", "g"))

    def test_a_join_spreads_what_was_moved(self):
        one = joined("g", "h")
        for shard in range(4, 8):
            one = changed_map(one, ("move", shard, "g"))
        self.assertEqual(one.places, ("g",) * 8)
        self.assertEqual(changed_map(one, ("join", "i", ("i1",))).places, ("g", "g", "g", "h", "i", "h", "i", "h"))

    def test_errors(self):
        one = joined("g", "h")
        before = one.shown()
        for change in (("join", "g", ("x",)), ("join", "i", ()), ("join", "maps", ("x",)), ("leave", "i"),
                       ("leave", "maps"), ("move", 8, "g"), ("move", -1, "g"), ("move", 0, "i"), ("move", 0, None),
                       ("other",), (), ("other", "g"), ("join", "i"), ("leave",), ("move", 1), ("leave", "g", 1)):
            with self.assertRaises(MapError):
                changed_map(one, change)
            self.assertEqual(one.shown(), before)
        for change in (("leave", "g"), ("move", 0, "g")):
            with self.assertRaises(MapError):
                changed_map(first_map(), change)
        with self.assertRaises(MapError):
            changed_map(joined("g"), ("leave", "g"))
        changed_map(joined("g"), ("join", "h", ("g1",)))


def spread(places, names):
    """Return places as point [6] tells, step by step."""
    places = [place if place in names else None for place in places]
    counts = {name: places.count(name) for name in names}
    for at, place in enumerate(places):
        if place is None:
            least = min(sorted(counts), key=lambda name: counts[name])
            places[at] = least
            counts[least] += 1
    while max(counts.values()) - min(counts.values()) > 1:
        most = max(counts, key=lambda name: (counts[name], name))
        least = min(counts, key=lambda name: (counts[name], name))
        places[len(places) - 1 - places[::-1].index(most)] = least
        counts[most] -= 1
        counts[least] += 1
    return tuple(places)


class Balanced(unittest.TestCase):
    def check(self, old, names):
        found = balanced(old, {name: (name,) for name in names})
        self.assertEqual(found, spread(old, names))
        self.assertIsInstance(found, tuple)
        counts = [found.count(name) for name in names]
        self.assertEqual(sum(counts), 8)
        self.assertLessEqual(max(counts) - min(counts), 1)
        # No fewer moves can do: what a group may hold on to is at most its share.
        there = [old.count(name) for name in names]
        fewest = min(sum(max(0, many - share) for many, share in zip(there, shares))
                     for shares in set(itertools.permutations(sorted(counts))))
        lost = len([1 for place in old if place not in names])
        self.assertEqual(moved([place if place in names else None for place in old], found), fewest + lost)

    def test_orders_of_one_to_five_groups(self):
        for many in range(1, 6):
            for names in itertools.permutations("ghijk"[:many]):
                one = first_map()
                for at, name in enumerate(names):
                    two = changed_map(one, ("join", name, (name,)))
                    self.assertEqual(two.places, spread(one.places, names[:at + 1]))
                    self.check(one.places, names[:at + 1])
                    one = two
                for at, name in enumerate(names[:-1]):
                    two = changed_map(one, ("leave", name))
                    self.assertEqual(two.places, spread(one.places, names[at + 1:]))
                    self.check(one.places, names[at + 1:])
                    one = two

    def test_drawn_places(self):
        draw = random.Random(3)
        for _ in range(400):
            names = tuple(sorted(draw.sample(("a", "b", "g", "h", "zz"), draw.randrange(1, 6))))
            self.check(tuple(draw.choice((None, "a", "b", "g", "h", "zz", "gone")) for _ in range(8)), names)

    def test_many_groups(self):
        names = tuple("abcdefghijkl")
        found = balanced((None,) * 8, {name: (name,) for name in names})
        self.assertEqual(found, tuple("abcdefgh"))
        self.assertEqual(balanced(found, {name: (name,) for name in names}), found)

    def test_no_groups(self):
        self.assertEqual(balanced((None,) * 8, {}), (None,) * 8)
        self.assertEqual(balanced(("a", "b") * 4, {}), (None,) * 8)


class Books(unittest.TestCase):
    def change(self, *change):
        return ("change", change)

    def test_new(self):
        book = MapBook()
        self.assertEqual([one.shown() for one in book.maps], [first_map().shown()])

    def test_changes(self):
        book = MapBook()
        answer = book.apply(("ask", "admin", 1, self.change("join", "g", ("g1",))))
        self.assertIsInstance(answer, tuple)
        self.assertEqual(answer, ("map", (1, ("g",) * 8, (("g", ("g1",)),))))
        book.apply(("ask", "admin", 2, self.change("join", "h", ("h1",))))
        self.assertEqual([one.number for one in book.maps], [0, 1, 2])
        self.assertEqual(book.maps[2].shown(), changed_map(book.maps[1], ("join", "h", ("h1",))).shown())

    def test_refused(self):
        book = MapBook()
        book.apply(("ask", "admin", 1, self.change("join", "g", ("g1",))))
        for number, change in enumerate((("join", "g", ("x",)), ("leave", "g"), ("leave", "x"), ("move", 9, "g")), 2):
            self.assertEqual(book.apply(("ask", "admin", number, ("change", change)))[0], "refused")
            self.assertEqual(len(book.maps), 2)

    def test_once_and_again(self):
        book = MapBook()
        first = book.apply(("ask", "admin", 1, self.change("join", "g", ("g1",))))
        self.assertEqual(book.apply(("ask", "admin", 1, self.change("join", "g", ("g1",)))), first)
        second = book.apply(("ask", "admin", 2, self.change("leave", "x")))
        self.assertEqual(book.apply(("ask", "admin", 2, self.change("leave", "x"))), second)
        self.assertEqual(book.apply(("ask", "admin", 1, self.change("join", "g", ("g1",)))), ("old",))
        book.apply(("ask", "other", 1, self.change("join", "h", ("h1",))))
        self.assertEqual([one.number for one in book.maps], [0, 1, 2])
        told = book.apply(("ask", "third", 4, ("map", None)))
        book.apply(("ask", "admin", 3, self.change("join", "i", ("i1",))))
        self.assertEqual(book.apply(("ask", "third", 4, ("map", None))), told)

    def test_maps_that_are_there_and_that_are_not(self):
        book = MapBook()
        for number, name in enumerate("ghi", 1):
            book.apply(("ask", "admin", number, self.change("join", name, (name,))))
        for number in range(4):
            told = ("map", book.maps[number].shown())
            self.assertEqual(book.answer_to(("map", number)), told)
            self.assertEqual(book.apply(("ask", "user", number + 1, ("map", number))), told)
        for number in (None, 4, 99, -1, -2):
            self.assertEqual(book.answer_to(("map", number)), ("map", book.maps[3].shown()))

    def test_other_commands(self):
        book = MapBook()
        for command in (("nothing",), ("members", ("a",))):
            self.assertEqual(book.apply(command), ("done",))
        self.assertEqual(len(book.maps), 1)

    def test_image(self):
        book = MapBook()
        first = book.apply(("ask", "admin", 1, self.change("join", "g", ("g1", "g2"))))
        book.apply(("ask", "user", 7, ("map", 0)))
        image = book.make_image()
        self.assertEqual(unpack(pack(image)), image)
        other = MapBook()
        other.apply(("ask", "x", 1, self.change("join", "x", ("x1",))))
        self.assertIsNone(other.install(image))
        self.assertEqual(other.make_image(), image)
        self.assertEqual([one.shown() for one in other.maps], [one.shown() for one in book.maps])
        self.assertEqual(other.apply(("ask", "admin", 1, self.change("leave", "g"))), first)
        self.assertEqual(other.apply(("ask", "user", 6, ("map", 0))), ("old",))
        other.apply(("ask", "x", 1, self.change("join", "x", ("x1",))))
        self.assertEqual((len(other.maps), len(book.maps), book.make_image()), (3, 2, image))


if __name__ == "__main__":
    unittest.main()
