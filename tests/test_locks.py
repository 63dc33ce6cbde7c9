"""Point [22]: who holds a key, who waits for whom, numbers of sole holders, rings."""

import random
import unittest

from shardstack.errors import LockError
from shardstack.locks import LockTable

SHARED, SOLE = "shared", "sole"


def state(table):
    """Return all that a lock table tells."""
    return ({key: list(rows) for key, rows in table.held.items()}, {key: list(rows) for key, rows in table.waits.items()})


class Asking(unittest.TestCase):
    def test_new(self):
        table = LockTable()
        self.assertEqual((table.held, table.waits), ({}, {}))
        self.assertIsNone(table.mode_of("a", "k"))
        self.assertEqual(table.waits_for("a"), ())
        self.assertIsNone(table.ring())
        self.assertIsNone(table.leave("a"))

    def test_shared_beside_shared(self):
        table = LockTable()
        for owner in "cab":
            self.assertIs(table.ask(owner, "k", SHARED), True)
            self.assertEqual(table.mode_of(owner, "k"), SHARED)
        self.assertEqual(state(table), ({"k": [("c", SHARED), ("a", SHARED), ("b", SHARED)]}, {}))

    def test_sole_beside_any(self):
        for first, second, both in ((SHARED, SHARED, True), (SHARED, SOLE, False), (SOLE, SHARED, False),
                                    (SOLE, SOLE, False)):
            table = LockTable()
            self.assertIs(table.ask("a", "k", first), True)
            self.assertIs(table.ask("b", "k", second), both)
            self.assertEqual((table.mode_of("a", "k"), table.mode_of("b", "k")), (first, second if both else None))
            self.assertEqual(table.waits, {} if both else {"k": [("b", second)]})
            # Another key is another matter.
            self.assertIs(table.ask("b", "other", second), True)

    def test_asking_again(self):
        for first, second in ((SHARED, SHARED), (SOLE, SOLE), (SOLE, SHARED)):
            table = LockTable()
            table.ask("a", "k", first)
            table.ask("b", "k", SOLE)
            before = state(table)
            self.assertIs(table.ask("a", "k", second), True)
            self.assertEqual(state(table), before)
            self.assertEqual(table.mode_of("a", "k"), first)
        self.assertEqual(table.number_of("a", "k"), 1)

    def test_asking_again_beside_others(self):
        table = LockTable()
        for owner in "abc":
            table.ask(owner, "k", SHARED)
        before = state(table)
        self.assertIs(table.ask("a", "k", SHARED), True)
        self.assertEqual(state(table), before)

    def test_errors(self):
        table = LockTable()
        table.ask("a", "k", SOLE)
        table.ask("b", "k", SHARED)
        before = state(table)
        for mode in ("both", "", "SOLE", None):
            for owner in "abc":
                with self.assertRaises(LockError):
                    table.ask(owner, "k", mode)
                self.assertEqual(state(table), before)
        for mode in (SHARED, SOLE):
            with self.assertRaises(LockError):
                table.ask("b", "k", mode)
            self.assertEqual(state(table), before)
        self.assertIs(table.ask("b", "other", SOLE), True)

    def test_who_asks_for_sole_waits_for_the_key(self):
        table = LockTable()
        table.ask("a", "k", SHARED)
        table.ask("b", "k", SHARED)
        self.assertIs(table.ask("a", "k", SOLE), False)
        for mode in (SHARED, SOLE):
            with self.assertRaises(LockError):
                table.ask("a", "k", mode)
        self.assertEqual(table.mode_of("a", "k"), SHARED)


class Serving(unittest.TestCase):
    def test_in_order(self):
        table = LockTable()
        table.ask("a", "k", SOLE)
        for owner, mode in (("b", SHARED), ("c", SHARED), ("d", SOLE), ("e", SHARED), ("f", SOLE)):
            self.assertIs(table.ask(owner, "k", mode), False)
        self.assertIsNone(table.release("a", "k"))
        self.assertEqual(state(table), ({"k": [("b", SHARED), ("c", SHARED)]},
                                        {"k": [("d", SOLE), ("e", SHARED), ("f", SOLE)]}))
        # It could be shared, but others wait ahead.
        self.assertIs(table.ask("g", "k", SHARED), False)
        table.release("c", "k")
        self.assertIsNone(table.mode_of("d", "k"))
        table.release("b", "k")
        self.assertEqual(state(table), ({"k": [("d", SOLE)]}, {"k": [("e", SHARED), ("f", SOLE), ("g", SHARED)]}))
        table.release("d", "k")
        self.assertEqual(state(table), ({"k": [("e", SHARED)]}, {"k": [("f", SOLE), ("g", SHARED)]}))
        table.release("e", "k")
        table.release("f", "k")
        self.assertEqual(state(table), ({"k": [("g", SHARED)]}, {}))
        table.release("g", "k")
        self.assertEqual(state(table), ({}, {}))

    def test_alone_from_shared_to_sole(self):
        table = LockTable()
        table.ask("a", "k", SHARED)
        self.assertIs(table.ask("a", "k", SOLE), True)
        self.assertEqual((table.mode_of("a", "k"), table.number_of("a", "k")), (SOLE, 1))
        self.assertEqual(state(table), ({"k": [("a", SOLE)]}, {}))

    def test_alone_ahead_of_those_who_wait(self):
        table = LockTable()
        table.ask("a", "k", SHARED)
        table.ask("b", "k", SOLE)
        table.ask("c", "k", SHARED)
        self.assertIs(table.ask("a", "k", SOLE), True)
        self.assertEqual(state(table), ({"k": [("a", SOLE)]}, {"k": [("b", SOLE), ("c", SHARED)]}))

    def test_waits_ahead_of_all_others(self):
        table = LockTable()
        table.ask("a", "k", SHARED)
        table.ask("b", "k", SHARED)
        table.ask("c", "k", SOLE)
        table.ask("d", "k", SHARED)
        self.assertIs(table.ask("b", "k", SOLE), False)
        self.assertEqual(table.waits, {"k": [("b", SOLE), ("c", SOLE), ("d", SHARED)]})
        self.assertEqual(table.mode_of("b", "k"), SHARED)
        table.release("a", "k")
        self.assertEqual((table.mode_of("b", "k"), table.number_of("b", "k")), (SOLE, 1))
        self.assertEqual(table.waits, {"k": [("c", SOLE), ("d", SHARED)]})

    def test_both_ask_for_sole(self):
        for leaves in ("release", "leave"):
            for first, second in (("a", "b"), ("b", "a")):
                table = LockTable()
                table.ask("a", "k", SHARED)
                table.ask("b", "k", SHARED)
                table.ask("c", "k", SHARED)
                self.assertIs(table.ask(first, "k", SOLE), False)
                self.assertIs(table.ask(second, "k", SOLE), False)
                self.assertEqual(table.waits, {"k": [(second, SOLE), (first, SOLE)]})
                table.release("c", "k")
                self.assertEqual((table.waits_for("a"), table.waits_for("b"), table.ring()),
                                 (("b",), ("a",), ("a", "b")))
                # Whoever of them is alone is served at once, also where another one waits ahead.
                if leaves == "release":
                    table.release(second, "k")
                    self.assertEqual(state(table), ({"k": [(first, SOLE)]}, {"k": [(second, SOLE)]}))
                else:
                    table.leave(second)
                    self.assertEqual(state(table), ({"k": [(first, SOLE)]}, {}))
                self.assertEqual(table.number_of(first, "k"), 1)
                self.assertIsNone(table.ring())

    def test_release(self):
        table = LockTable()
        table.ask("a", "k", SOLE)
        table.ask("b", "k", SOLE)
        before = state(table)
        for owner, key in (("b", "k"), ("c", "k"), ("a", "other")):
            with self.assertRaises(LockError):
                table.release(owner, key)
            self.assertEqual(state(table), before)
        table.release("a", "k")
        with self.assertRaises(LockError):
            table.release("a", "k")
        self.assertEqual(table.mode_of("b", "k"), SOLE)

    def test_leave(self):
        table = LockTable()
        table.ask("a", "k", SHARED)
        table.ask("b", "k", SOLE)
        table.ask("c", "k", SHARED)
        table.ask("b", "l", SOLE)
        table.ask("a", "l", SHARED)
        table.ask("b", "m", SHARED)
        table.ask("c", "m", SOLE)
        # Who waited behind b is served, as is who waited for what it held.
        self.assertIsNone(table.leave("b"))
        self.assertEqual(state(table), ({"k": [("a", SHARED), ("c", SHARED)], "l": [("a", SHARED)], "m": [("c", SOLE)]},
                                        {}))
        table.leave("b")
        self.assertEqual(table.mode_of("a", "k"), SHARED)

    def test_leave_by_one_who_holds_and_waits(self):
        table = LockTable()
        table.ask("a", "k", SHARED)
        table.ask("b", "k", SHARED)
        table.ask("a", "k", SOLE)
        table.ask("c", "k", SHARED)
        table.leave("a")
        self.assertEqual(state(table), ({"k": [("b", SHARED), ("c", SHARED)]}, {}))


class Numbers(unittest.TestCase):
    def test_from_one_on_for_each_key(self):
        table = LockTable()
        for number in range(1, 5):
            for key in ("k", "l"):
                table.ask("a", key, SOLE)
                self.assertEqual(table.number_of("a", key), number)
                self.assertEqual(table.number_of("a", key), number)
                table.release("a", key)
        table.ask("b", "m", SOLE)
        self.assertEqual(table.number_of("b", "m"), 1)

    def test_greater_than_all_before(self):
        table = LockTable()
        table.ask("a", "k", SOLE)
        table.ask("b", "k", SOLE)
        table.ask("c", "k", SHARED)
        table.ask("a", "k", SOLE)
        self.assertEqual(table.number_of("a", "k"), 1)
        table.release("a", "k")
        self.assertEqual(table.number_of("b", "k"), 2)
        table.release("b", "k")
        table.ask("c", "k", SOLE)
        self.assertEqual(table.number_of("c", "k"), 3)

    def test_errors(self):
        table = LockTable()
        table.ask("a", "k", SOLE)
        table.ask("b", "k", SOLE)
        table.ask("c", "l", SHARED)
        for owner, key in (("b", "k"), ("c", "k"), ("c", "l"), ("a", "l"), ("a", "none")):
            with self.assertRaises(LockError):
                table.number_of(owner, key)
        table.release("a", "k")
        with self.assertRaises(LockError):
            table.number_of("a", "k")


class Waiting(unittest.TestCase):
    def test_holders_and_those_ahead(self):
        table = LockTable()
        for owner, mode in (("h", SHARED), ("g", SHARED), ("s", SOLE), ("e", SHARED), ("d", SHARED), ("t", SOLE)):
            table.ask(owner, "k", mode)
        self.assertEqual(table.waits_for("h"), ())
        self.assertEqual(table.waits_for("s"), ("g", "h"))
        # Shared goes with shared: it waits for the sole one ahead alone.
        self.assertEqual(table.waits_for("e"), ("s",))
        self.assertEqual(table.waits_for("d"), ("s",))
        self.assertEqual(table.waits_for("t"), ("d", "e", "g", "h", "s"))
        self.assertEqual(table.waits_for("nobody"), ())

    def test_one_who_holds_solely(self):
        table = LockTable()
        for owner, mode in (("h", SOLE), ("e", SHARED), ("d", SHARED)):
            table.ask(owner, "k", mode)
        self.assertEqual([table.waits_for(owner) for owner in "hed"], [(), ("h",), ("h",)])

    def test_one_who_asks_for_more(self):
        table = LockTable()
        for owner, mode in (("h", SHARED), ("g", SHARED), ("s", SOLE), ("e", SHARED), ("g", SOLE)):
            table.ask(owner, "k", mode)
        self.assertEqual([table.waits_for(owner) for owner in "hgse"], [(), ("h",), ("g", "h"), ("g", "s")])

    def test_several_keys(self):
        table = LockTable()
        for owner, key, mode in (("c", "k", SOLE), ("b", "l", SHARED), ("c", "l", SHARED), ("a", "k", SHARED),
                                 ("a", "l", SOLE)):
            table.ask(owner, key, mode)
        self.assertEqual(table.waits_for("a"), ("b", "c"))

    def test_numbers_as_owners(self):
        table = LockTable()
        for owner in (10, 9, 2, 100):
            table.ask(owner, "k", SHARED)
        table.ask(1, "k", SOLE)
        self.assertEqual(table.waits_for(1), (2, 9, 10, 100))


class Rings(unittest.TestCase):
    def ring_of(self, *rows):
        """Return the ring where each (owner, others) row's owner waits for others, by a key of its own for each."""
        table = LockTable()
        for owner, others in rows:
            for other in others:
                table.ask(other, (owner, other), SOLE)
        for owner, others in rows:
            for other in others:
                table.ask(owner, (owner, other), SOLE)
        for owner, others in rows:
            self.assertEqual(table.waits_for(owner), tuple(sorted(others)))
        before = state(table)
        found = table.ring()
        self.assertEqual(state(table), before)
        return found

    def test_none(self):
        self.assertIsNone(self.ring_of(("a", "b")))
        self.assertIsNone(self.ring_of(("a", "bc"), ("b", "cd"), ("c", "d")))
        self.assertIsNone(self.ring_of(("c", "ab"), ("b", "a"), ("d", "abc"), ("e", "abcd")))

    def test_rings(self):
        self.assertEqual(self.ring_of(("a", "b"), ("b", "a")), ("a", "b"))
        self.assertEqual(self.ring_of(("a", "c"), ("c", "b"), ("b", "a")), ("a", "c", "b"))
        self.assertEqual(self.ring_of(("c", "b"), ("b", "a"), ("a", "c")), ("a", "c", "b"))
        self.assertEqual(self.ring_of(("a", "b"), ("b", "c"), ("c", "d"), ("d", "a")), ("a", "b", "c", "d"))
        self.assertEqual(self.ring_of((3, (20,)), (20, (100,)), (100, (3,))), (3, 20, 100))

    def test_first_that_is_found(self):
        self.assertEqual(self.ring_of(("a", "b"), ("b", "a"), ("c", "d"), ("d", "c")), ("a", "b"))
        self.assertEqual(self.ring_of(("c", "d"), ("d", "c"), ("b", "a"), ("a", "b")), ("a", "b"))
        # From the least owner on, which is in no ring itself.
        self.assertEqual(self.ring_of(("a", "d"), ("d", "c"), ("c", "d"), ("e", "f"), ("f", "e")), ("c", "d"))
        self.assertEqual(self.ring_of(("a", "z"), ("b", "c"), ("c", "b")), ("b", "c"))
        # Going on to the least one that is waited for.
        self.assertEqual(self.ring_of(("a", "bc"), ("b", "a"), ("c", "a")), ("a", "b"))
        self.assertEqual(self.ring_of(("a", "cd"), ("c", "e"), ("d", "a")), ("a", "d"))
        self.assertEqual(self.ring_of(("a", "bd"), ("b", "c"), ("c", "b"), ("d", "a")), ("b", "c"))
        self.assertEqual(self.ring_of(("a", "b"), ("b", "cd"), ("c", "e"), ("d", "b"), ("e", "f")), ("b", "d"))

    def test_ends_when_one_leaves(self):
        table = LockTable()
        for owner, key in (("a", "k"), ("b", "l"), ("c", "m"), ("a", "l"), ("b", "m"), ("c", "k")):
            table.ask(owner, key, SOLE)
        self.assertEqual(table.ring(), ("a", "b", "c"))
        table.leave("b")
        self.assertIsNone(table.ring())
        self.assertEqual(state(table), ({"k": [("a", SOLE)], "l": [("a", SOLE)], "m": [("c", SOLE)]},
                                        {"k": [("c", SOLE)]}))

    def test_long_ring(self):
        table = LockTable()
        for number in range(1200):
            table.ask(number, number, SOLE)
        for number in range(1200):
            table.ask(number, (number + 1) % 1200, SOLE)
        self.assertEqual(table.ring(), tuple(range(1200)))


class Plain:
    """A lock table by the words of point [22]."""

    def __init__(self):
        self.held = {}
        self.waits = {}
        self.numbers = {}

    def fits(self, key, owner, mode):
        others = [one for name, one in self.held.get(key, {}).items() if name != owner]
        return not others or (mode == SHARED and SOLE not in others)

    def ask(self, owner, key, mode):
        waits = self.waits.setdefault(key, [])
        held = self.held.setdefault(key, {})
        if mode not in (SHARED, SOLE) or owner in dict(waits):
            return None
        if held.get(owner) in (SOLE, mode):
            return True
        if owner in held:
            waits.insert(0, (owner, mode))
        else:
            waits.append((owner, mode))
        self.serve(key)
        return held.get(owner) == mode

    def serve(self, key):
        waits, held = self.waits.setdefault(key, []), self.held.setdefault(key, {})
        while True:
            alone = [row for row in waits if list(held) == [row[0]]]
            row = alone[0] if alone else waits[0] if waits else None
            if row is None or not self.fits(key, *row):
                return
            waits.remove(row)
            held[row[0]] = row[1]
            if row[1] == SOLE:
                self.numbers[key] = self.numbers.get(key, 0) + 1

    def release(self, owner, key):
        if owner not in self.held.get(key, {}):
            return None
        del self.held[key][owner]
        self.serve(key)
        return True

    def leave(self, owner):
        for key in self.held:
            self.waits[key] = [row for row in self.waits.get(key, []) if row[0] != owner]
            self.held[key].pop(owner, None)
            self.serve(key)

    def waits_for(self, owner):
        found = set()
        for key, rows in self.waits.items():
            for at, (one, mode) in enumerate(rows):
                if one == owner:
                    others = list(self.held[key].items()) + rows[:at]
                    found |= {other for other, wanted in others if other != owner and SOLE in (mode, wanted)}
        return tuple(sorted(found))


class Drawn(unittest.TestCase):
    def has_ring(self, wants):
        left = dict(wants)
        while True:
            free = [owner for owner in left if not any(other in left for other in left[owner])]
            if not free:
                return bool(left)
            for owner in free:
                del left[owner]

    def run_once(self, seed):
        draw = random.Random(seed)
        table, plain = LockTable(), Plain()
        owners, keys = draw.choice(("abcde", (1, 2, 10, 20))), "kl"
        rings = 0
        for _ in range(120):
            owner, key = draw.choice(owners), draw.choice(keys)
            word = draw.choice(("ask",) * 6 + ("release",) * 2 + ("leave",))
            told = (owner,) if word == "leave" else (owner, key)
            told += (draw.choice((SHARED, SHARED, SOLE)),) if word == "ask" else ()
            answer = getattr(plain, word)(*told)
            if answer is None and word != "leave":
                with self.assertRaises(LockError):
                    getattr(table, word)(*told)
            elif word == "ask":
                self.assertIs(table.ask(*told), answer)
            else:
                self.assertIsNone(getattr(table, word)(*told))
            self.check(table, plain, owners, keys)
            wants = {one: plain.waits_for(one) for one in owners}
            ring = table.ring()
            self.assertEqual(ring is not None, self.has_ring(wants))
            if ring is not None:
                rings += 1
                self.assertEqual(ring[0], min(ring))
                self.assertEqual(len(set(ring)), len(ring))
                for at, one in enumerate(ring):
                    self.assertIn(ring[(at + 1) % len(ring)], wants[one])
        return rings

    def check(self, table, plain, owners, keys):
        self.assertEqual({key: dict(rows) for key, rows in table.held.items()},
                         {key: rows for key, rows in plain.held.items() if rows})
        self.assertEqual(table.waits, {key: rows for key, rows in plain.waits.items() if rows})
        for owner in owners:
            self.assertEqual(table.waits_for(owner), plain.waits_for(owner))
            for key in keys:
                self.assertEqual(table.mode_of(owner, key), plain.held.get(key, {}).get(owner))
                if table.mode_of(owner, key) == SOLE:
                    self.assertEqual(table.number_of(owner, key), plain.numbers[key])

    def test_drawn(self):
        self.assertGreater(sum(self.run_once(seed) for seed in range(150)), 1000)


if __name__ == "__main__":
    unittest.main()
