"""Point [24]: work that is given out until it is done, and shares of work by weight."""

import random
import unittest
from fractions import Fraction

from shardstack.errors import QueueError
from shardstack.queues import Shares, Tenant, Work, WorkQueue


def state(queue):
    return ({number: dict(vars(work)) for number, work in queue.rows.items()},
            [(work.number, work.body) for work in queue.given_up], queue.next_number)


class Works(unittest.TestCase):
    def test_work(self):
        work = Work(3, ("x",), 9)
        self.assertEqual((work.number, work.body, work.ready, work.takes, work.receipt), (3, ("x",), 9, 0, None))

    def test_new(self):
        queue = WorkQueue(5)
        self.assertEqual((queue.rows, queue.given_up, queue.next_number), ({}, [], 1))
        self.assertIsNone(queue.take(0))
        for length in (0, -1):
            with self.assertRaises(QueueError):
                WorkQueue(length)
        WorkQueue(1)

    def test_put(self):
        queue = WorkQueue(5)
        self.assertEqual([queue.put("a", 0), queue.put("b", 0, 3), queue.put("c", 7, wait=2)], [1, 2, 3])
        self.assertEqual([(number, work.number, work.body, work.ready, work.takes, work.receipt)
                          for number, work in queue.rows.items()],
                         [(1, 1, "a", 0, 0, None), (2, 2, "b", 3, 0, None), (3, 3, "c", 9, 0, None)])
        before = state(queue)
        for wait in (-1, -100):
            with self.assertRaises(QueueError):
                queue.put("d", 9, wait)
            self.assertEqual(state(queue), before)
        self.assertEqual(queue.next_number, 4)

    def test_least_number_that_may_be_taken(self):
        queue = WorkQueue(10)
        queue.put("a", 0, 5)
        queue.put("b", 0, 2)
        queue.put("c", 0)
        self.assertEqual(queue.take(0), (3, 1, "c"))
        self.assertIsNone(queue.take(1))
        self.assertEqual(queue.take(2), (2, 2, "b"))
        self.assertIsNone(queue.take(4))
        self.assertEqual(queue.take(5), (1, 3, "a"))
        self.assertIsNone(queue.take(9))
        # A taking holds up to its end, that moment not counted.
        self.assertEqual(queue.take(10), (3, 4, "c"))
        self.assertIsNone(queue.take(11))
        self.assertEqual(queue.take(12), (2, 5, "b"))
        self.assertEqual([(work.ready, work.takes, work.receipt) for work in queue.rows.values()],
                         [(15, 1, 3), (22, 2, 5), (20, 2, 4)])

    def test_time_that_does_not_go_on(self):
        queue = WorkQueue(3)
        for body in "abc":
            queue.put(body, 4)
        self.assertEqual([queue.take(4) for _ in range(4)], [(1, 1, "a"), (2, 2, "b"), (3, 3, "c"), None])
        self.assertIs(queue.give_back(2, 2, 4), True)
        self.assertEqual(queue.take(4), (2, 4, "b"))
        self.assertIs(queue.give_back(2, 4, 4), True)
        self.assertEqual(queue.take(4), (2, 5, "b"))
        self.assertIs(queue.give_back(2, 5, 4), True)
        self.assertIsNone(queue.take(4))
        self.assertEqual(state(queue)[1], [(2, "b")])


class Receipts(unittest.TestCase):
    def taken(self):
        """Return a queue of length 5 with work a and b, both taken at 0, a again at 5."""
        queue = WorkQueue(5)
        queue.put("a", 0)
        queue.put("b", 0)
        self.assertEqual([queue.take(0), queue.take(0), queue.take(5)], [(1, 1, "a"), (2, 2, "b"), (1, 3, "a")])
        return queue

    def test_holds(self):
        queue = self.taken()
        for number, receipt, time, answer in ((1, 3, 5, True), (1, 3, 9, True), (1, 3, 10, False), (1, 3, 11, False),
                                              (1, 1, 5, False), (1, 2, 5, False), (2, 3, 5, False), (2, 2, 5, False),
                                              (3, 3, 5, False), (1, 4, 5, False), (0, 1, 5, False)):
            self.assertIs(queue.holds(number, receipt, time), answer)

    def test_refused(self):
        for word in ("done", "give_back", "longer"):
            for number, receipt, time in ((1, 1, 5), (1, 2, 5), (2, 2, 5), (2, 3, 6), (3, 3, 5), (1, 4, 5), (1, 3, 10),
                                          (1, 3, 99)):
                queue = self.taken()
                before = state(queue)
                self.assertIs(getattr(queue, word)(number, receipt, time), False)
                self.assertEqual(state(queue), before)

    def test_work_that_was_never_taken(self):
        queue = WorkQueue(5)
        queue.put("a", 0, 9)
        queue.put("b", 0)
        before = state(queue)
        for word in ("holds", "done", "give_back", "longer"):
            # It has no receipt, so that None, what its field tells, is none of its own.
            for number in (1, 2, 3):
                for receipt in (1, 0, None):
                    for time in (0, 8, 9):
                        self.assertIs(getattr(queue, word)(number, receipt, time), False)
                        self.assertEqual(state(queue), before)
        self.assertIsNone(queue.rows[1].receipt)
        self.assertEqual([queue.take(8), queue.take(8), queue.take(9)], [(2, 1, "b"), None, (1, 2, "a")])
        for word in ("holds", "done", "give_back", "longer"):
            self.assertIs(getattr(queue, word)(1, None, 9), False)
        self.assertIs(queue.done(1, 2, 9), True)

    def test_done(self):
        queue = self.taken()
        self.assertIs(queue.done(1, 3, 9), True)
        self.assertIs(queue.holds(1, 3, 9), False)
        self.assertIs(queue.done(1, 3, 9), False)
        self.assertEqual(list(queue.rows), [2])
        self.assertEqual(queue.put("c", 9), 3)
        self.assertEqual([queue.take(9), queue.take(9), queue.take(9)], [(2, 4, "b"), (3, 5, "c"), None])
        self.assertEqual(queue.given_up, [])

    def test_give_back(self):
        queue = self.taken()
        self.assertIs(queue.give_back(1, 3, 7), True)
        self.assertIs(queue.holds(1, 3, 7), False)
        for word in ("give_back", "done", "longer"):
            self.assertIs(getattr(queue, word)(1, 3, 7), False)
        # It was taken twice already: a third time, and it is given up.
        self.assertEqual(queue.take(7), (1, 4, "a"))
        self.assertIs(queue.done(1, 3, 8), False)
        self.assertIs(queue.give_back(1, 4, 8), True)
        self.assertEqual(queue.rows[1].takes, 3)
        self.assertEqual(queue.take(8), (2, 5, "b"))
        self.assertEqual(state(queue)[1], [(1, "a")])

    def test_longer(self):
        queue = self.taken()
        self.assertIs(queue.longer(1, 3, 9), True)
        self.assertEqual([queue.holds(1, 3, time) for time in (10, 13, 14)], [True, True, False])
        self.assertIs(queue.longer(1, 3, 13), True)
        self.assertEqual((queue.rows[1].ready, queue.rows[1].takes, queue.rows[1].receipt), (18, 2, 3))
        self.assertIs(queue.longer(1, 3, 18), False)
        self.assertEqual(queue.take(18), (1, 4, "a"))

    def test_receipts_for_the_whole_queue(self):
        queue = WorkQueue(1)
        for body in "abcd":
            queue.put(body, 0)
        receipts = []
        for time in range(3):
            for _ in range(4):
                receipts.append(queue.take(time)[1])
        self.assertEqual(receipts, list(range(1, 13)))


class GivenUp(unittest.TestCase):
    def test_as_far_as_a_taking_comes(self):
        queue = WorkQueue(2)
        for body in "abcde":
            queue.put(body, 0)
        for time in (0, 2, 4):
            self.assertEqual([queue.take(time)[0] for _ in range(4)], [1, 2, 3, 4])
        # While it is held for the third time, it can be done.
        self.assertIs(queue.done(2, 10, 5), True)
        self.assertEqual(queue.take(5), (5, 13, "e"))
        self.assertEqual(queue.given_up, [])
        queue.put("f", 6)
        self.assertIs(queue.longer(4, 12, 5), True)
        # 1 and 3 are given up on the way to 6; 4 is held.
        self.assertEqual(queue.take(6), (6, 14, "f"))
        self.assertEqual(state(queue)[1], [(1, "a"), (3, "c")])
        self.assertEqual(list(queue.rows), [4, 5, 6])
        for word in ("holds", "done", "give_back", "longer"):
            self.assertIs(getattr(queue, word)(1, 9, 6), False)
        self.assertEqual(queue.take(7), (5, 15, "e"))
        self.assertEqual(state(queue)[1], [(1, "a"), (3, "c"), (4, "d")])

    def test_no_further_than_what_is_taken(self):
        queue = WorkQueue(2)
        queue.put("a", 0, 1)
        queue.put("b", 0)
        for time in (0, 2, 4):
            queue.done(1, 99, time)
            self.assertEqual(queue.take(time)[0] if time == 0 else queue.take(time)[0], 2 if time == 0 else 1)
            if time > 0:
                self.assertEqual(queue.take(time)[0], 2)
        # 2 was taken three times, 1 twice: the taking of 1 does not come as far as 2.
        self.assertEqual(queue.take(6)[0], 1)
        self.assertEqual(queue.given_up, [])
        self.assertIsNone(queue.take(6))
        self.assertEqual(state(queue)[1], [(2, "b")])
        self.assertIsNone(queue.take(7))
        self.assertIsNone(queue.take(8))
        self.assertEqual(state(queue)[1], [(2, "b"), (1, "a")])
        self.assertEqual(queue.rows, {})


class PlainQueue:
    """A queue by the words of point [24]."""

    def __init__(self, length):
        self.length = length
        self.rows = []
        self.given_up = []
        self.receipts = 0
        self.many = 0

    def put(self, body, time, wait):
        self.many += 1
        self.rows.append({"number": self.many, "body": body, "ready": time + wait, "takes": 0, "receipt": None, "end": None})
        return self.many

    def take(self, time):
        for row in list(self.rows):
            if row["ready"] > time or (row["end"] is not None and time < row["end"]):
                continue
            if row["takes"] == 3:
                self.rows.remove(row)
                self.given_up.append(row["number"])
                continue
            self.receipts += 1
            row.update(takes=row["takes"] + 1, receipt=self.receipts, end=time + self.length)
            return row["number"], self.receipts, row["body"]
        return None

    def held(self, number, receipt, time):
        rows = [row for row in self.rows if row["number"] == number and row["receipt"] == receipt]
        return rows[0] if rows and rows[0]["end"] is not None and time < rows[0]["end"] else None

    def end(self, word, number, receipt, time):
        row = self.held(number, receipt, time)
        if row is None:
            return False
        if word == "done":
            self.rows.remove(row)
        elif word == "give_back":
            row["end"] = None
        elif word == "longer":
            row["end"] = time + self.length
        return True


class DrawnQueues(unittest.TestCase):
    def run_once(self, seed):
        draw = random.Random(seed)
        length = draw.choice((1, 2, 5, 9))
        queue, plain = WorkQueue(length), PlainQueue(length)
        time = 0
        told = [(1, 1)]
        for _ in range(150):
            time += draw.choice((0, 0, 1, 1, 2, length))
            word = draw.choice(("put", "put", "take", "take", "take", "holds", "done", "give_back", "longer"))
            if word == "put":
                wait = draw.choice((0, 0, 1, 7))
                self.assertEqual(queue.put(("b", time), time, wait), plain.put(("b", time), time, wait))
            elif word == "take":
                found = queue.take(time)
                self.assertEqual(found, plain.take(time))
                told += [found[:2]] if found else []
            else:
                number, receipt = draw.choice(told[-6:])
                if draw.random() < 0.1:
                    receipt = draw.randrange(len(told) + 2)
                elif draw.random() < 0.1:
                    # Any work, also what was never taken, whose receipt is None.
                    number, receipt = draw.randint(1, plain.many + 1), None
                self.assertIs(getattr(queue, word)(number, receipt, time), plain.end(word, number, receipt, time))
            self.assertEqual([work.number for work in queue.given_up], plain.given_up)
            self.assertEqual([(work.number, work.body, work.takes) for work in queue.rows.values()],
                             [(row["number"], row["body"], row["takes"]) for row in plain.rows])
            self.assertEqual(sorted(queue.rows), [row["number"] for row in plain.rows])
        return len(queue.given_up)

    def test_drawn(self):
        self.assertGreater(sum(self.run_once(seed) for seed in range(150)), 300)


class Sharing(unittest.TestCase):
    def test_new(self):
        shares = Shares()
        self.assertEqual((shares.tenants, shares.point), ({}, 0))
        self.assertIsNone(shares.next_work())
        tenant = Tenant(4)
        self.assertEqual((tenant.waits, tenant.point), ([], 0))

    def test_add(self):
        shares = Shares()
        for name, weight in (("a", 0), ("a", -1), ("a", 11), ("a", 100)):
            with self.assertRaises(QueueError):
                shares.add(name, weight)
            self.assertEqual(shares.tenants, {})
        self.assertIsNone(shares.add("a", 1))
        shares.add("b", 10)
        for name, weight in (("a", 1), ("b", 5), ("c", 0), ("c", 11)):
            with self.assertRaises(QueueError):
                shares.add(name, weight)
        self.assertEqual(list(shares.tenants), ["a", "b"])
        self.assertIsInstance(shares.tenants["a"], Tenant)

    def test_put(self):
        shares = Shares()
        shares.add("a", 1)
        for name, size in (("a", 0), ("a", -1), ("b", 1), ("b", 0), ("", 1)):
            with self.assertRaises(QueueError):
                shares.put(name, size, "x")
        self.assertEqual((shares.tenants["a"].waits, shares.next_work()), ([], None))
        self.assertIsNone(shares.put("a", 1, "x"))
        shares.put("a", 7, ("y",))
        self.assertEqual(shares.tenants["a"].waits, [(1, "x"), (7, ("y",))])
        self.assertEqual([shares.next_work(), shares.next_work(), shares.next_work()],
                         [("a", 1, "x"), ("a", 7, ("y",)), None])

    def test_points(self):
        for weight in range(1, 11):
            shares = Shares()
            shares.add("a", weight)
            point = 0
            for size in (1, 2, 3, 7, 10, 100):
                shares.put("a", size, "x")
                self.assertEqual(shares.next_work(), ("a", size, "x"))
                self.assertEqual(shares.point, point)
                point += size * 5040 // weight
                self.assertEqual(shares.tenants["a"].point, point)

    def test_points_by_hand(self):
        shares = Shares()
        shares.add("a", 3)
        shares.put("a", 2, "x")
        shares.next_work()
        self.assertEqual(shares.tenants["a"].point, 3360)

    def test_by_weights(self):
        shares = Shares()
        for name, weight in (("c", 1), ("a", 2), ("b", 1)):
            shares.add(name, weight)
            for at in range(8):
                shares.put(name, 1, at)
        served = "".join(shares.next_work()[0] for _ in range(12))
        # a stands at 0, 2520, 5040 ..; b and c at 0, 5040 ..: of equal points the first by name.
        self.assertEqual(served, "abcaabcaabca")

    def test_nothing_waited(self):
        shares = Shares()
        shares.add("a", 1)
        shares.add("b", 1)
        for at in range(5):
            shares.put("a", 1, at)
        for _ in range(3):
            shares.next_work()
        self.assertEqual((shares.point, shares.tenants["a"].point), (10080, 15120))
        # b did not save up its share: it begins where the last work began, and only once.
        shares.put("b", 1, "x")
        self.assertEqual(shares.tenants["b"].point, 10080)
        shares.put("b", 1, "y")
        self.assertEqual(shares.next_work(), ("b", 1, "x"))
        self.assertEqual(shares.next_work(), ("a", 1, 3))
        self.assertEqual(shares.next_work(), ("b", 1, "y"))
        self.assertEqual(shares.tenants["b"].point, 20160)
        # Its own point, if that is greater.
        self.assertEqual(shares.point, 15120)
        shares.put("b", 1, "z")
        self.assertEqual(shares.tenants["b"].point, 20160)

    def test_one_that_waits_keeps_its_point(self):
        shares = Shares()
        shares.add("a", 1)
        shares.add("b", 1)
        shares.put("b", 1, "old")
        for _ in range(3):
            shares.put("a", 3, "x")
        self.assertEqual([shares.next_work()[0] for _ in range(2)], ["a", "b"])
        shares.put("b", 1, "p")
        shares.next_work()
        shares.put("b", 1, "q")
        self.assertEqual((shares.point, shares.tenants["b"].point), (5040, 10080))
        shares.next_work()
        self.assertEqual((shares.point, shares.tenants["b"].point), (10080, 15120))


class DrawnShares(unittest.TestCase):
    def test_while_all_have_work(self):
        for seed in range(60):
            draw = random.Random(seed)
            shares = Shares()
            weights = {name: draw.randint(1, 10) for name in "abcd"[:draw.randint(2, 4)]}
            served = {name: 0 for name in weights}
            largest = {name: 1 for name in weights}
            works = 0
            for name, weight in weights.items():
                shares.add(name, weight)
            most = draw.choice((1, 5, 40))
            for _ in range(300):
                for name in weights:
                    while len(shares.tenants[name].waits) < 2:
                        size = draw.randint(1, most)
                        largest[name] = max(largest[name], size)
                        shares.put(name, size, "x")
                name, size, _ = shares.next_work()
                served[name] += size
                works += 1
                for one in weights:
                    for other in weights:
                        apart = Fraction(served[one], weights[one]) - Fraction(served[other], weights[other])
                        fair = Fraction(largest[one], weights[one]) + Fraction(largest[other], weights[other])
                        self.assertLessEqual(apart, fair + Fraction(works, 5040))

    def test_by_words(self):
        for seed in range(80):
            draw = random.Random(seed)
            shares = Shares()
            weights, points, waits, last = {}, {}, {}, 0
            for at in range(150):
                word = draw.choice(("put", "put", "next", "next", "add"))
                name = draw.choice("abcde")
                if word == "add" and name not in weights:
                    weights[name], points[name], waits[name] = draw.randint(1, 10), 0, []
                    shares.add(name, weights[name])
                elif word == "put" and name in weights:
                    size = draw.randint(1, 12)
                    if not waits[name]:
                        points[name] = max(points[name], last)
                    waits[name].append((size, at))
                    shares.put(name, size, at)
                elif word == "next":
                    names = sorted((points[one], one) for one in weights if waits[one])
                    if not names:
                        self.assertIsNone(shares.next_work())
                        continue
                    last, name = names[0]
                    size, body = waits[name].pop(0)
                    points[name] += size * 5040 // weights[name]
                    self.assertEqual(shares.next_work(), (name, size, body))
                self.assertEqual(shares.point, last)
                self.assertEqual({one: (tenant.point, tenant.waits) for one, tenant in shares.tenants.items()},
                                 {one: (points[one], waits[one]) for one in weights})


if __name__ == "__main__":
    unittest.main()
