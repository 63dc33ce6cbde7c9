"""Point [13]: whether answers can be those of operations that take effect one after another."""

import itertools
import random
import unittest

from shardstack.linear import (
    Operation, carry_wish, first_ones, is_before, is_linear, linear_order, operations_of)

DONE = ("done",)


def value(text):
    return ("value", text)


def operations(*rows):
    """Return operations of rows (wish, asked, answered, answer)."""
    return [Operation("u", *row) for row in rows]


def is_right(some, order):
    """Return True if an order is as the document asks for: by its words, one by one."""
    if len(set(order)) != len(order):
        return False
    if any(one.answered is not None and number not in order for number, one in enumerate(some)):
        return False
    data = {}
    for at, number in enumerate(order):
        one = some[number]
        if any(some[other].answered is not None and some[other].answered < one.asked for other in order[at + 1:]):
            return False
        answer = carry_wish(data, one.wish)
        if one.answered is not None and answer != one.answer:
            return False
    return True


def has_order(some):
    """Return True if any order of any of the operations is right."""
    answered = [number for number, one in enumerate(some) if one.answered is not None]
    others = [number for number, one in enumerate(some) if one.answered is None]
    for many in range(len(others) + 1):
        for more in itertools.combinations(others, many):
            for order in itertools.permutations(answered + list(more)):
                if is_right(some, order):
                    return True
    return False


class Parts(unittest.TestCase):
    def test_fields(self):
        one = Operation("u", ("get", "a"), 3, None, None)
        self.assertEqual((one.client, one.wish, one.asked, one.answered, one.answer), ("u", ("get", "a"), 3, None, None))

    def test_carry_wish(self):
        data = {"a": "1"}
        for wish, answer, after in (
                (("get", "a"), value("1"), {"a": "1"}), (("read", "a"), value("1"), {"a": "1"}),
                (("read", "b"), value(None), {"a": "1"}), (("put", "b", "2"), DONE, {"a": "1", "b": "2"}),
                (("append", "a", "x"), value("1x"), {"a": "1x", "b": "2"}),
                (("deal", (("delete", "b"), ("swap", "a", "0", "9"), ("get", "a"))),
                 ("deal", (DONE, value("1x"), value("1x"))), {"a": "1x"}),
                (("all", (("put", "a", "3"), ("get", "a"))), ("all", (DONE, value("3"))), {"a": "3"}),
                (("deal", (("append", "a", "y" * 200), ("put", "b", "4"))), ("deal", (("refused", "too long"), DONE)),
                 {"a": "3", "b": "4"})):
            self.assertEqual(carry_wish(data, wish), answer)
            self.assertEqual(data, after)

    def test_operations_of(self):
        history = [("u", 1, ("put", "a", "1"), 1, 2, DONE), ("v", 1, ("near", "a"), 3, 4, ("near", "1", 9)),
                   ("u", 2, ("read", "a"), 5, None, None)]
        found = operations_of(history)
        self.assertEqual([(one.client, one.wish, one.asked, one.answered, one.answer) for one in found],
                         [("u", ("put", "a", "1"), 1, 2, DONE), ("u", ("read", "a"), 5, None, None)])

    def test_is_before(self):
        one = Operation("u", ("get", "a"), 3, 7, value(None))
        self.assertEqual([is_before(one, time) for time in (6, 7, 8)], [False, False, True])
        self.assertFalse(is_before(Operation("u", ("get", "a"), 3, None, None), 10 ** 9))

    def test_first_ones(self):
        some = operations((("get", "a"), 1, 4, value(None)), (("get", "a"), 2, 9, value(None)),
                          (("get", "a"), 4, 8, value(None)), (("get", "a"), 5, None, None), (("get", "a"), 9, 10, value(None)))
        self.assertEqual(first_ones(some, [0, 1, 2, 3, 4]), [0, 1, 2])
        self.assertEqual(first_ones(some, [1, 2, 3, 4]), [1, 2, 3])
        self.assertEqual(first_ones(some, [3, 4]), [3, 4])
        self.assertEqual(first_ones(some, [3]), [3])
        self.assertEqual(first_ones(some, []), [])


class Orders(unittest.TestCase):
    def check(self, some, expected):
        order = linear_order(some)
        self.assertEqual(order is not None, expected)
        if expected:
            self.assertIsInstance(order, list)
            self.assertTrue(is_right(some, order))
        return order

    def test_none(self):
        self.assertEqual(linear_order([]), [])
        self.assertTrue(is_linear([]))

    def test_one_after_another(self):
        rows = [(("put", "a", "1"), 1, 2, DONE), (("get", "a"), 3, 4, value("1")), (("append", "a", "2"), 5, 6, value("12")),
                (("swap", "a", "12", None), 7, 8, DONE), (("read", "a"), 9, 10, value(None))]
        self.assertEqual(self.check(operations(*rows), True), [0, 1, 2, 3, 4])
        for at in range(5):
            wrong = list(rows)
            wrong[at] = rows[at][:3] + (value("7"),)
            self.check(operations(*wrong), False)

    def test_an_old_value(self):
        self.check(operations((("put", "a", "1"), 1, 2, DONE), (("get", "a"), 3, 4, value(None))), False)
        self.check(operations((("put", "a", "1"), 1, 3, DONE), (("get", "a"), 3, 4, value(None))), True)
        self.check(operations((("put", "a", "1"), 1, 9, DONE), (("get", "a"), 2, 3, value("1")),
                              (("get", "a"), 4, 5, value(None))), False)
        self.check(operations((("put", "a", "1"), 1, 9, DONE), (("get", "a"), 2, 3, value(None)),
                              (("get", "a"), 4, 5, value("1"))), True)

    def test_at_the_same_times(self):
        some = operations((("append", "a", "1"), 1, 5, value("21")), (("append", "a", "2"), 1, 5, value("2")),
                          (("append", "a", "3"), 1, 5, value("213")))
        self.assertEqual(self.check(some, True), [1, 0, 2])
        self.check(operations((("append", "a", "1"), 1, 5, value("1")), (("append", "a", "2"), 1, 5, value("2"))), False)

    def test_what_changes_nothing_here_may_have_to_come_later(self):
        # A delete before the swap would be right, too, but the second swap needs it between.
        some = operations((("delete", "h"), 1, 9, DONE), (("swap", "h", None, "1"), 2, 3, DONE),
                          (("swap", "h", None, "2"), 10, 11, DONE))
        self.assertEqual(self.check(some, True), [1, 0, 2])

    def test_without_answers(self):
        lost = (("put", "a", "1"), 1, None, None)
        self.check(operations(lost), True)
        self.check(operations(lost, (("get", "a"), 2, 3, value(None))), True)
        self.check(operations(lost, (("get", "a"), 2, 3, value("1"))), True)
        self.check(operations(lost, (("get", "a"), 2, 3, value("1")), (("get", "a"), 4, 5, value(None))), False)
        self.check(operations(lost, (("get", "a"), 2, 3, value(None)), (("get", "a"), 4, 5, value("1"))), True)
        self.check(operations((("get", "a"), 2, 3, value("1")), (("put", "a", "1"), 4, None, None)), False)
        # One alone cannot take effect twice.
        more = (("append", "a", "x"), 1, None, None)
        self.check(operations(more, (("get", "a"), 2, 3, value("xx"))), False)
        self.check(operations(more, more, (("get", "a"), 2, 3, value("xx"))), True)

    def test_deals_take_effect_at_once(self):
        deal = (("deal", (("put", "a", "1"), ("put", "b", "1"))), 1, 9, ("deal", (DONE, DONE)))
        self.check(operations(deal, (("get", "a"), 2, 3, value("1")), (("get", "b"), 4, 5, value("1"))), True)
        self.check(operations(deal, (("get", "a"), 2, 3, value("1")), (("get", "b"), 4, 5, value(None))), False)
        self.check(operations(deal, (("get", "b"), 2, 3, value(None)), (("get", "a"), 4, 5, value("1"))), True)

    def test_keys_that_do_not_touch_each_other_go_into_one_order(self):
        # Each stands after those that were answered before, those of other keys as well.
        some = operations((("put", "b", "1"), 5, 6, DONE), (("put", "a", "1"), 1, 2, DONE), (("get", "c"), 3, 4, value(None)),
                          (("get", "a"), 7, 8, value("1")))
        self.assertEqual(self.check(some, True), [1, 2, 0, 3])

    def test_histories(self):
        history = [("u", 1, ("put", "a", "1"), 1, 2, DONE), ("v", 1, ("near", "a"), 3, 4, ("near", None, 0)),
                   ("u", 2, ("read", "a"), 5, 6, value("1"))]
        self.assertTrue(is_linear(history))
        self.assertFalse(is_linear(history + [("v", 2, ("get", "a"), 7, 8, value(None))]))
        self.assertTrue(is_linear(history + [("v", 2, ("get", "a"), 7, None, None)]))

    def random_operations(self, draw):
        """Return few operations whose answers are right, or nearly so."""
        wishes = (("get", "a"), ("read", "b"), ("put", "a", "1"), ("put", "b", "1"), ("append", "a", "2"), ("delete", "a"),
                  ("swap", "a", None, "3"), ("swap", "b", "1", None), ("deal", (("get", "a"), ("append", "b", "4"))),
                  ("deal", (("swap", "a", None, "5"), ("swap", "b", None, "5"))), ("all", (("get", "a"), ("delete", "a"))))
        data, time, found = {}, 10, []
        for _ in range(draw.randrange(2, 6)):
            wish = draw.choice(wishes)
            answer = carry_wish(data, wish)
            time += draw.randrange(0, 3)
            asked, answered = time - draw.randrange(0, 8), time + draw.randrange(0, 8)
            if draw.random() < 0.2:
                answered = answer = None
            elif draw.random() < 0.2:
                answer = draw.choice((value("1"), value(None), DONE, answer))
            found.append(Operation("u", wish, asked, answered, answer))
        draw.shuffle(found)
        return found

    def test_as_all_orders_tell(self):
        draw = random.Random(7)
        seen = {True: 0, False: 0}
        for _ in range(2500):
            some = self.random_operations(draw)
            expected = has_order(some)
            seen[expected] += 1
            self.check(some, expected)
        self.assertGreater(min(seen.values()), 300)

    def test_long_histories(self):
        draw = random.Random(3)
        data, rows = {}, []
        for number in range(300):
            key = draw.choice("abc")
            wish = draw.choice((("append", key, str(number) + "."), ("put", key, str(number)), ("get", key), ("delete", key)))
            answer = carry_wish(data, wish)
            time = 10 * number
            rows.append((wish, time - draw.randrange(25), time + draw.randrange(25), answer))
        self.check(operations(*rows), True)
        at = max(number for number, row in enumerate(rows) if row[0][0] == "get" and number < 250)
        rows[at] = rows[at][:3] + (value("never"),)
        self.check(operations(*rows), False)

    def test_many_at_once(self):
        rows = [(("append", "a", sign), 1, 99, None) for sign in "abcdefgh"]
        order = "hbcagfed"
        rows = [(wish, asked, answered, value(order[:order.index(wish[2]) + 1])) for wish, asked, answered, _ in rows]
        self.check(operations(*rows), True)
        puts = [(("put", "a", str(number)), 1, 99, DONE) for number in range(9)]
        self.check(operations(*puts, (("get", "a"), 100, 101, value("4"))), True)
        self.check(operations(*puts, (("get", "a"), 100, 101, value("9"))), False)
        lost = [(("put", "a", str(number)), 1, None, None) for number in range(9)]
        self.check(operations(*lost, (("get", "a"), 2, 3, value("4")), (("get", "a"), 4, 5, value("8"))), True)
        self.check(operations(*lost, (("get", "a"), 2, 3, value("4")), (("get", "a"), 4, 5, value("9"))), False)


if __name__ == "__main__":
    unittest.main()
