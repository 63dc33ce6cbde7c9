"""Point [17]: clocks of a rate, how long to wait, who holds a lease and until when, acts that are refused."""

import random
import unittest
from fractions import Fraction

from shardstack.errors import MachineError
from shardstack.lease import DriftClock, Granter, Guarded, Holder, waiting_time

EVEN = (1, 1)
SLOW = (9, 10)
FAST = (11, 10)


def drawn_clock(draw):
    """Return a clock of any rate that is allowed, the outermost ones often."""
    low = draw.choice((1, 7, 10, 20, 33, 100, 1000))
    first, last = -(-9 * low // 10), 11 * low // 10
    return DriftClock((draw.choice((first, last, draw.randint(first, last))), low), draw.randint(-60, 60))


class Clocks(unittest.TestCase):
    def test_shown(self):
        for rate in (SLOW, FAST, EVEN, (18, 20), (99, 100), (101, 100), (22, 20), (7, 7), (33, 30), (1000, 999)):
            for start in (0, 5, -7, -1000):
                clock = DriftClock(rate, start)
                self.assertEqual(clock.begun, start)
                for time in list(range(0, 120)) + [999, 10 ** 12 + 7]:
                    exact = start + Fraction(time) * Fraction(*rate)
                    self.assertEqual(clock.at(time), exact.numerator // exact.denominator)
                    self.assertIs(type(clock.at(time)), int)

    def test_by_hand(self):
        slow, fast = DriftClock(SLOW), DriftClock(FAST, -3)
        self.assertEqual(slow.begun, 0)
        self.assertEqual([slow.at(time) for time in (0, 1, 2, 9, 10, 11)], [0, 0, 1, 8, 9, 9])
        self.assertEqual([fast.at(time) for time in (0, 1, 9, 10, 11)], [-3, -2, 6, 8, 9])

    def test_rates_that_are_none(self):
        for rate in ((89, 100), (111, 100), (899, 1000), (1101, 1000), (8, 9), (10, 9), (0, 1), (-1, 1), (2, 1), (1, 2),
                     (1, 0), (0, 0), (-9, -10), (9, -10), (-1, -1), (10 ** 30 * 11 + 1, 10 ** 31)):
            with self.assertRaises(MachineError, msg=rate):
                DriftClock(rate)
            with self.assertRaises(MachineError, msg=rate):
                DriftClock(rate, 5)
        DriftClock((10 ** 30 * 11, 10 ** 31))
        DriftClock((10 ** 30 * 9, 10 ** 31))


class Waiting(unittest.TestCase):
    def test_surely_longer(self):
        draw = random.Random(1)
        for length in range(1, 1000):
            wait = waiting_time(length)
            self.assertIs(type(wait), int)
            for _ in range(12):
                one, other = drawn_clock(draw), drawn_clock(draw)
                begin = end = draw.randint(0, 300)
                end += wait * 10 // 11 - 2
                while one.at(end) - one.at(begin) < wait:
                    end += 1
                self.assertGreater(other.at(end) - other.at(begin), length)

    def test_no_longer_than_needed(self):
        for length in range(1, 1000):
            # One tick less may be shown by a clock of 11/10 in this time, and in it one of 9/10 shows no more than the
            # length: both at the least fitting beginnings.
            wait = waiting_time(length) - 1
            time = wait * 10 // 11
            time += -(-11 * time // 10) < wait
            self.assertEqual(max(DriftClock(FAST).at(begin + time) - DriftClock(FAST).at(begin) for begin in range(10)),
                             -(-11 * time // 10))
            self.assertGreaterEqual(-(-11 * time // 10), wait)
            slow = DriftClock(SLOW)
            self.assertLessEqual(min(slow.at(begin + time) - slow.at(begin) for begin in range(10)), length)
            self.assertLessEqual(waiting_time(length), (length + 1) * 11 // 9 + 2)

    def test_by_hand(self):
        # 3 of true time are 2 ticks at least by any clock, 2 of it 3 ticks at most: 4 ticks tell of 3 of true time.
        self.assertEqual([waiting_time(length) for length in (1, 2, 8, 9, 10, 999)], [4, 5, 11, 14, 15, 1224])
        self.assertEqual([waiting_time(length) for length in range(1, 1000)],
                         sorted(waiting_time(length) for length in range(1, 1000)))


class Grants(unittest.TestCase):
    def test_new(self):
        clock = DriftClock(EVEN)
        granter = Granter(clock)
        self.assertIsNone(granter.holder)
        self.assertEqual(granter.number, 0)
        self.assertIs(granter.clock, clock)

    def test_lengths(self):
        granter = Granter(DriftClock(EVEN))
        for length in (0, -1, 1000, 1001):
            with self.assertRaises(MachineError):
                granter.ask("a", length, 3)
            self.assertEqual((granter.holder, granter.number), (None, 0))
        self.assertEqual(granter.ask("a", 1, 0), 1)
        for length in (0, 1000):
            with self.assertRaises(MachineError):
                granter.ask("a", length, 1)
            with self.assertRaises(MachineError):
                granter.ask("b", length, 1)
        self.assertEqual((granter.holder, granter.number), ("a", 1))
        self.assertEqual(granter.ask("b", 999, 100), 2)
        self.assertIsNone(granter.ask("c", 1, 100 + waiting_time(999) - 1))
        self.assertEqual(granter.ask("c", 1, 100 + waiting_time(999)), 3)

    def test_one_at_a_time(self):
        for start in (0, 40, -40):
            for rate in (EVEN, SLOW, FAST):
                clock = DriftClock(rate, start)
                granter = Granter(clock)
                self.assertEqual(granter.ask("a", 10, 5), 1)
                self.assertEqual((granter.holder, granter.number), ("a", 1))
                time = 5
                while clock.at(time) - clock.at(5) < waiting_time(10):
                    self.assertIsNone(granter.ask("b", 10, time))
                    self.assertEqual((granter.holder, granter.number), ("a", 1))
                    time += 1
                self.assertEqual(granter.ask("b", 10, time), 2)
                self.assertEqual((granter.holder, granter.number), ("b", 2))
                self.assertIsNone(granter.ask("a", 10, time))

    def test_holder_asks_again(self):
        granter = Granter(DriftClock(EVEN))
        self.assertEqual(granter.ask("a", 10, 0), 1)
        self.assertEqual(granter.ask("a", 10, 0), 1)
        self.assertEqual(granter.ask("a", 10, 9), 1)
        self.assertIsNone(granter.ask("b", 1, 9 + waiting_time(10) - 1))
        self.assertEqual(granter.ask("a", 10, 9 + waiting_time(10) - 1), 1)
        last = 9 + waiting_time(10) - 1 + waiting_time(10)
        # It surely ended: the same machine holds it anew.
        self.assertEqual(granter.ask("a", 10, last), 2)
        self.assertIsNone(granter.ask("b", 10, last))

    def test_a_shorter_lease_does_not_end_the_longer_one(self):
        granter = Granter(DriftClock(EVEN))
        self.assertEqual(granter.ask("a", 100, 0), 1)
        self.assertEqual(granter.ask("a", 1, 5), 1)
        for time in (5 + waiting_time(1), 50, waiting_time(100) - 1):
            self.assertIsNone(granter.ask("b", 1, time))
        self.assertEqual(granter.ask("b", 1, waiting_time(100)), 2)

    def test_given_back(self):
        granter = Granter(DriftClock(EVEN))
        self.assertIs(granter.give_back("a", 1), False)
        self.assertIs(granter.give_back("a", 0), False)
        # Nobody holds it: it is not the lease of a nobody.
        self.assertIs(granter.give_back(None, 0), False)
        self.assertEqual(granter.ask("a", 100, 0), 1)
        self.assertIs(granter.give_back("b", 1), False)
        self.assertIs(granter.give_back("a", 0), False)
        self.assertIs(granter.give_back("a", 2), False)
        self.assertEqual((granter.holder, granter.number), ("a", 1))
        self.assertIsNone(granter.ask("b", 100, 1))
        self.assertIs(granter.give_back("a", 1), True)
        self.assertEqual((granter.holder, granter.number), (None, 1))
        self.assertIs(granter.give_back("a", 1), False)
        self.assertIs(granter.give_back(granter.holder, granter.number), False)
        self.assertEqual(granter.ask("b", 100, 1), 2)
        self.assertIs(granter.give_back("a", 1), False)
        self.assertIs(granter.give_back("a", 2), False)
        self.assertIs(granter.give_back("b", 2), True)
        # Whoever gave it back is a new holder, and the long lease from before counts no more.
        self.assertEqual(granter.ask("b", 1, 2), 3)
        self.assertEqual(granter.ask("c", 1, 2 + waiting_time(1)), 4)


class Holders(unittest.TestCase):
    def test_new(self):
        clock = DriftClock(EVEN)
        holder = Holder("a", clock)
        self.assertEqual((holder.name, holder.number, holder.turn), ("a", None, 0))
        self.assertIs(holder.clock, clock)
        self.assertIsNone(holder.asked)
        self.assertIs(holder.holds(0), False)
        self.assertIs(holder.holds(-5), False)
        self.assertIsNone(holder.drop())
        self.assertIs(holder.granted(0, 1), False)
        self.assertIs(holder.granted(1, 1), False)
        self.assertIs(holder.holds(0), False)

    def test_counts_from_the_asking(self):
        for rate in (EVEN, SLOW, FAST):
            for start in (0, 13, -50):
                clock = DriftClock(rate, start)
                holder = Holder("a", clock)
                self.assertEqual(holder.begin(20, 7), 1)
                self.assertEqual((holder.turn, holder.asked, holder.number), (1, clock.at(7), None))
                self.assertIs(holder.holds(8), False)
                self.assertIs(holder.granted(1, 4), True)
                self.assertEqual(holder.number, 4)
                for time in range(7, 60):
                    self.assertIs(holder.holds(time), clock.at(time) - clock.at(7) < 20)

    def test_end_by_hand(self):
        holder = Holder("a", DriftClock(EVEN))
        holder.granted(holder.begin(5, 100), 1)
        self.assertEqual([holder.holds(time) for time in (100, 104, 105, 106)], [True, True, False, False])
        slow = Holder("b", DriftClock(SLOW))
        slow.granted(slow.begin(1, 0), 1)
        self.assertEqual([slow.holds(time) for time in (0, 1, 2)], [True, True, False])

    def test_last_asking_alone(self):
        holder = Holder("a", DriftClock(EVEN))
        self.assertEqual([holder.begin(10, 0), holder.begin(30, 4)], [1, 2])
        self.assertIs(holder.granted(1, 1), False)
        self.assertIs(holder.granted(3, 1), False)
        self.assertEqual((holder.number, holder.holds(5)), (None, False))
        self.assertIs(holder.granted(2, None), False)
        self.assertEqual((holder.number, holder.holds(5)), (None, False))
        self.assertIs(holder.granted(2, 1), True)
        self.assertEqual([holder.holds(time) for time in (33, 34)], [True, False])
        self.assertEqual(holder.begin(10, 20), 3)
        # What it holds goes on while it asks again; what is told of earlier askings does nothing.
        self.assertIs(holder.granted(2, 9), False)
        self.assertIs(holder.granted(2, None), False)
        self.assertIs(holder.granted(1, None), False)
        self.assertEqual(holder.number, 1)
        self.assertEqual([holder.holds(time) for time in (21, 33, 34)], [True, True, False])
        self.assertIs(holder.granted(3, 2), True)
        self.assertEqual((holder.number, holder.turn), (2, 3))
        self.assertEqual([holder.holds(time) for time in (29, 30)], [True, False])

    def test_drop(self):
        holder = Holder("a", DriftClock(EVEN))
        holder.granted(holder.begin(10, 0), 7)
        self.assertEqual(holder.drop(), 7)
        self.assertEqual((holder.number, holder.holds(1)), (None, False))
        self.assertIsNone(holder.drop())
        # What was dropped may be given back by now: a grant that comes again, or late, is not held.
        self.assertIsNone(holder.asked)
        self.assertIs(holder.granted(1, 7), False)
        self.assertIs(holder.granted(1, 8), False)
        self.assertIs(holder.holds(1), False)
        turn = holder.begin(10, 5)
        self.assertEqual((turn, holder.asked), (2, 5))
        self.assertIs(holder.granted(turn, None), False)
        self.assertEqual((holder.number, holder.holds(6)), (None, False))
        self.assertIs(holder.granted(turn, 8), True)
        self.assertIs(holder.holds(6), True)
        self.assertEqual(holder.drop(), 8)
        self.assertIs(holder.holds(6), False)
        # Asked for anew, and not given back: it is granted again to its holder.
        turn = holder.begin(10, 20)
        self.assertIs(holder.granted(turn, 8), True)
        self.assertEqual([holder.holds(time) for time in (29, 30)], [True, False])

    def test_drop_while_asking_again(self):
        holder = Holder("a", DriftClock(EVEN))
        holder.granted(holder.begin(10, 0), 7)
        turn = holder.begin(10, 5)
        self.assertEqual(holder.drop(), 7)
        # The asking is over, and the fields tell so; its turn stays counted.
        self.assertEqual((holder.asked, holder.turn, holder.number), (None, turn, None))
        for number in (7, None, 8):
            self.assertIs(holder.granted(turn, number), False)
            self.assertEqual((holder.asked, holder.number, holder.holds(6)), (None, None, False))
        self.assertEqual(holder.begin(10, 6), turn + 1)
        self.assertIs(holder.granted(turn, 7), False)
        self.assertIs(holder.granted(turn + 1, 7), True)
        self.assertEqual([holder.holds(time) for time in (15, 16)], [True, False])

    def test_drop_of_an_asking_alone(self):
        granter = Granter(DriftClock(EVEN))
        one, other = Holder("a", DriftClock(EVEN)), Holder("b", DriftClock(EVEN))
        turn = one.begin(10, 0)
        self.assertEqual(granter.ask("a", 10, 0), 1)
        # The grant was not heard of: it may be given back all the same, by whoever knows of it.
        self.assertIsNone(one.drop())
        self.assertEqual((one.asked, one.turn), (None, 1))
        self.assertIs(granter.give_back("a", 1), True)
        self.assertIs(other.granted(other.begin(10, 1), granter.ask("b", 10, 1)), True)
        self.assertIs(one.granted(turn, 1), False)
        for time in range(1, 11):
            self.assertEqual([one.holds(time), other.holds(time)], [False, True])

    def test_grants_of_the_asking_that_stands(self):
        """Drawn deeds: granted answers True for a number told of the last asking, where asked is not None, else not."""
        draw = random.Random(19)
        answers = []
        for _ in range(300):
            holder = Holder("a", DriftClock(EVEN))
            time = turns = 0
            for _ in range(20):
                time += draw.randrange(3)
                word = draw.choice(("begin", "begin", "drop", "granted", "granted", "granted"))
                if word == "begin":
                    turns += 1
                    self.assertEqual(holder.begin(10, time), turns)
                    self.assertEqual(holder.asked, time)
                elif word == "drop":
                    before = holder.number
                    self.assertEqual(holder.drop(), before)
                    self.assertEqual((holder.number, holder.asked, holder.holds(time)), (None, None, False))
                else:
                    turn, number = draw.choice((turns, turns, turns - 1, turns + 1)), draw.choice((None, 1, 1, 2))
                    stands = holder.asked is not None and turn == turns and number is not None
                    before = vars(holder).copy()
                    answers.append(holder.granted(turn, number))
                    self.assertIs(answers[-1], stands)
                    if stands:
                        self.assertEqual((holder.number, holder.holds(time)), (number, time < holder.asked + 10))
                    else:
                        self.assertEqual(vars(holder), before)
                self.assertEqual(holder.turn, turns)
        self.assertGreater(min(answers.count(True), answers.count(False)), 500)


class Together(unittest.TestCase):
    """Holders that ask by messages that are late, lost, repeated and reordered."""

    def run_once(self, seed):
        draw = random.Random(seed)
        granter = Granter(drawn_clock(draw))
        holders = {name: Holder(name, drawn_clock(draw)) for name in "abc"}
        shared = Guarded()
        messages = []
        held = grants = 0
        numbers = []
        slowness = draw.choice((2, 10, 60))

        def send(*message):
            for _ in range(draw.choice((0, 1, 1, 1, 2))):
                messages.append((time + draw.randrange(slowness),) + message)

        for time in range(400):
            for name, holder in holders.items():
                if any(one[1:3] == ("back", name) for one in messages):
                    # Who gives back asks again when it is told that this was done.
                    continue
                if draw.random() < 0.2:
                    length = draw.choice((1, 5, 20, draw.randint(1, 40)))
                    send("ask", name, length, holder.begin(length, time))
                elif draw.random() < 0.05:
                    # A grant that was not heard of is given back, too.
                    send("back", name, holder.drop() or granter.number)
            due = [one for one in messages if one[0] <= time]
            messages[:] = [one for one in messages if one[0] > time]
            draw.shuffle(due)
            for _, word, name, *rest in due:
                if word == "ask":
                    number = granter.ask(name, rest[0], time)
                    send("answer", name, rest[1], number)
                    if number is not None:
                        numbers.append((number, name))
                        grants += 1
                elif word == "back":
                    granter.give_back(name, rest[0])
                else:
                    holders[name].granted(*rest)
            mine = [name for name in holders if holders[name].holds(time)]
            self.assertLessEqual(len(mine), 1, (seed, time))
            for name in mine:
                held += 1
                self.assertIs(shared.act(holders[name].number, name), True)
        self.assertEqual([number for number, _ in numbers], sorted(number for number, _ in numbers))
        self.assertEqual(len(set(numbers)), len({number for number, _ in numbers}))
        self.assertEqual(sorted({number for number, _ in numbers}), list(range(1, granter.number + 1)))
        return held, granter.number, grants

    def test_never_two(self):
        runs = [self.run_once(seed) for seed in range(120)]
        self.assertGreater(sum(held for held, _, _ in runs), 2000)
        self.assertGreater(sum(number for _, number, _ in runs), 800)
        self.assertGreater(sum(grants for _, _, grants in runs), 2000)


class Acts(unittest.TestCase):
    def test_numbers(self):
        guarded = Guarded()
        self.assertEqual(guarded.acts, [])
        self.assertIs(guarded.act(3, "a"), True)
        self.assertIs(guarded.act(3, "b"), True)
        self.assertIs(guarded.act(2, "c"), False)
        self.assertIs(guarded.act(5, ("d", 1)), True)
        self.assertIs(guarded.act(4, "e"), False)
        self.assertIs(guarded.act(3, "f"), False)
        self.assertIs(guarded.act(5, None), True)
        self.assertEqual(guarded.acts, [(3, "a"), (3, "b"), (5, ("d", 1)), (5, None)])
        self.assertIs(type(guarded.acts), list)

    def test_first_may_have_any_number(self):
        for number in (0, 1, 99):
            self.assertIs(Guarded().act(number, "a"), True)


if __name__ == "__main__":
    unittest.main()
