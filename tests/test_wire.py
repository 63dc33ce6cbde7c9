"""Point [2]: values as bytes, records and their checksums."""

import random
import unittest
import zlib

from shardstack.errors import ShardError, WireError
from shardstack.wire import four, frame, natural, pack, read_frames, sign_number, sum_of_bytes, unpack

SENDABLE = "\n" + "".join(chr(number) for number in range(32, 127) if chr(number) != "%")
HUGE = 10 ** 400 + 12345


def nested(many, core=()):
    """Return a value that stands in so many tuples."""
    for _ in range(many):
        core = (core,)
    return core


def same(one, other):
    """Return True if values are the same, and of the same classes throughout."""
    if type(one) is not type(other):
        return False
    if isinstance(one, tuple):
        return len(one) == len(other) and all(same(a, b) for a, b in zip(one, other))
    return one == other


VALUES = (
    None, True, False, 0, 1, -1, 2, 127, 128, -127, -128, -129, 255, 256, 16383, 16384, -16384, -16385, HUGE, -HUGE,
    "", "a", "\n", " ", "~", "&", "some words\nand more", SENDABLE, "x" * 127, "x" * 128, (), ("",), ((), ((),)),
    (1, True, 0, False, None), (1, (2, ("three", (None,)))), tuple(range(200)), nested(30), nested(30, "deep"),
)


class Natural(unittest.TestCase):
    def test_by_hand(self):
        for number, data in ((0, (0,)), (1, (1,)), (127, (127,)), (128, (128, 1)), (129, (129, 1)), (255, (255, 1)),
                             (256, (128, 2)), (16383, (255, 127)), (16384, (128, 128, 1)), (300, (172, 2)),
                             (2 ** 21, (128, 128, 128, 1))):
            self.assertEqual(natural(number), data)

    def test_long_numbers(self):
        data = natural(HUGE)
        self.assertEqual(sum((byte & 127) << (7 * at) for at, byte in enumerate(data)), HUGE)
        self.assertTrue(all(128 <= byte < 256 for byte in data[:-1]))
        self.assertTrue(0 < data[-1] < 128)


class Signs(unittest.TestCase):
    def test_places(self):
        for sign, place in (("\n", 0), (" ", 1), ("!", 2), ('"', 3), ("#", 4), ("$", 5), ("&", 6), ("'", 7), ("0", 16),
                            ("A", 33), ("a", 65), ("~", 94)):
            self.assertEqual(sign_number(sign), place)

    def test_each_has_its_place(self):
        self.assertEqual([sign_number(sign) for sign in SENDABLE], list(range(95)))

    def test_others_cannot_be_sent(self):
        for sign in ("%", "\t", "\r", "\x00", "\x1f", "\x7f", "\x80", "\xe4", "\u20ac", "\U0001f600", "", "ab"):
            with self.assertRaises(WireError):
                sign_number(sign)


class Pack(unittest.TestCase):
    def test_bytes_by_hand(self):
        for value, data in (
                (None, (1,)), (True, (2,)), (False, (3,)), (0, (4, 0)), (1, (4, 1)), (127, (4, 127)),
                (128, (4, 128, 1)), (16383, (4, 255, 127)), (16384, (4, 128, 128, 1)), (-1, (5, 0)), (-128, (5, 127)),
                (-129, (5, 128, 1)), ("", (6, 0)), ("a", (6, 1, 65)), ("\n &~", (6, 4, 0, 1, 6, 94)), ((), (7, 0)),
                ((None,), (7, 1, 1)), (("", ()), (7, 2, 6, 0, 7, 0)), ((1, ("b", -2)), (7, 2, 4, 1, 7, 2, 6, 1, 66, 5, 1)),
                ("x" * 128, (6, 128, 1) + (88,) * 128), ((None,) * 128, (7, 128, 1) + (1,) * 128)):
            self.assertEqual(pack(value), data)
            self.assertIsInstance(pack(value), tuple)

    def test_depth(self):
        self.assertEqual(pack(nested(30)), (7, 1) * 30 + (7, 0))
        self.assertEqual(pack(nested(30, 5)), (7, 1) * 30 + (4, 5))
        for value in (nested(31), nested(31, None), nested(31, "a"), nested(45, 1), (1, (nested(29, "x"), 2))):
            with self.assertRaises(WireError):
                pack(value)

    def test_depth_that_is_told(self):
        self.assertEqual(pack("a", 30), (6, 1, 65))
        self.assertEqual(pack(nested(10, 1), 20), pack(nested(10, 1)))
        for value, depth in (("a", 31), (None, 31), ((1,), 30), (nested(11, 1), 20)):
            with self.assertRaises(WireError):
                pack(value, depth)

    def test_what_cannot_be_sent(self):
        for value in ("%", "a\tb", "\r", "\x7f", "\xe9", "\u2028", [], [1], {}, {"a": 1}, b"", b"ab", object(), 1.0, 1.5,
                      {1}, len, range(3), bytearray(b"a")):
            for whole in (value, (value,), (1, ("a", (None, value)), 2), nested(29, (0, value))):
                with self.assertRaises(WireError):
                    pack(whole)


class Unpack(unittest.TestCase):
    def test_the_very_value_comes_back(self):
        for value in VALUES:
            self.assertTrue(same(unpack(pack(value)), value))
            self.assertTrue(same(unpack(pack((value,))) if value not in (nested(30), nested(30, "deep")) else (value,),
                                 (value,)))

    def test_cut_at_every_place(self):
        for value in VALUES:
            data = pack(value)
            for many in range(len(data)):
                with self.assertRaises(WireError):
                    unpack(data[:many])

    def test_more_behind_a_value(self):
        for value in VALUES:
            for more in ((0,), (1,), (128,), (7, 0)):
                with self.assertRaises(WireError):
                    unpack(pack(value) + more)

    def test_no_values(self):
        for data in ((), (0,), (8,), (9, 1), (255,), (128,), (7, 1, 0), (7, 2, 1, 8),
                     (4, 128, 0), (4, 129, 0), (4, 128, 128, 0), (5, 255, 0), (6, 128, 0), (6, 129, 0, 65), (7, 128, 0),
                     (4,) + (128,) * 50, (4,) + (255,) * 50, (6,) + (255,) * 50, (7,) + (255,) * 50,
                     (6, 1, 95), (6, 1, 127), (6, 1, 255), (6, 2, 65, 95), (6, 5, 65), (7, 5, 1), (7, 2, 1),
                     (6,) + natural(10 ** 30) + (65,), (7,) + natural(10 ** 30) + (1,), (7,) + natural(2 ** 62)):
            with self.assertRaises(WireError):
                unpack(data)

    def test_depth(self):
        self.assertEqual(unpack((7, 1) * 30 + (7, 0)), nested(30))
        for data in ((7, 1) * 31 + (7, 0), (7, 1) * 31 + (1,), (7, 1) * 200 + (1,), (7, 1) * 5000 + (4, 1)):
            with self.assertRaises(WireError):
                unpack(data)

    def check_in_one_way_only(self, data):
        try:
            value = unpack(data)
        except WireError:
            return 0
        self.assertEqual(pack(value), data)
        return 1

    def test_short_rows_in_one_way_only(self):
        marks = (0, 1, 2, 3, 4, 5, 6, 7, 8, 94, 95, 127, 128, 129, 255)
        many = 0
        for one in marks:
            many += self.check_in_one_way_only((one,))
            for two in marks:
                many += self.check_in_one_way_only((one, two))
                for three in marks:
                    many += self.check_in_one_way_only((one, two, three))
        self.assertGreater(many, 50)

    def test_drawn_rows_in_one_way_only(self):
        draw = random.Random(4)
        many = 0
        for _ in range(4000):
            data = tuple(draw.choice((1, 2, 4, 5, 6, 7, 7, 0, 1, 2, 3, 65, 128, draw.randrange(256)))
                         for _ in range(draw.randrange(1, 12)))
            many += self.check_in_one_way_only(data)
        self.assertGreater(many, 100)

    def test_damaged_rows_in_one_way_only(self):
        draw = random.Random(5)
        for value in VALUES:
            data = list(pack(value))
            for _ in range(60):
                changed = list(data)
                changed[draw.randrange(len(data))] = draw.randrange(256)
                self.check_in_one_way_only(tuple(changed))


class Sums(unittest.TestCase):
    def test_by_hand(self):
        self.assertEqual(sum_of_bytes(()), (0, 0, 0, 1))
        self.assertEqual(sum_of_bytes((0,)), (0, 1, 0, 1))
        self.assertEqual(sum_of_bytes((1, 2, 3)), (0, 13, 0, 7))
        # 255 a hundred times: the first sum is 1 + 25500, the second 100 + 255 * 5050 by 65521.
        second = (100 + 255 * 5050) % 65521
        self.assertEqual(sum_of_bytes((255,) * 100), (second // 256, second % 256, 25501 // 256, 25501 % 256))

    def test_long_rows(self):
        draw = random.Random(1)
        for many in (256, 257, 258, 1000, 20000, 100000):
            for data in ((255,) * many, tuple(draw.randrange(256) for _ in range(many))):
                self.assertEqual(sum_of_bytes(data), tuple(zlib.adler32(bytes(data)).to_bytes(4, "big")))

    def test_four(self):
        for number, data in ((0, (0, 0, 0, 0)), (1, (0, 0, 0, 1)), (255, (0, 0, 0, 255)), (256, (0, 0, 1, 0)),
                             (16909060, (1, 2, 3, 4)), (65536, (0, 1, 0, 0)),
                             (16777216, (1, 0, 0, 0)), (3735928559, (222, 173, 190, 239)),
                             (4278190335, (255, 0, 0, 255)), (4294967295, (255, 255, 255, 255))):
            self.assertEqual(four(number), data)


class Frames(unittest.TestCase):
    def test_frame_by_hand(self):
        self.assertEqual(frame(None), (0, 0, 0, 1) + (1,) + (0, 2, 0, 2))
        self.assertEqual(frame("a"), (0, 0, 0, 3) + (6, 1, 65) + (0, 88, 0, 73))
        self.assertEqual(frame("x" * 300)[:7], (0, 0, 1, 47, 6, 172, 2))

    def test_frame_of_what_cannot_be_sent(self):
        for value in ("%", [], (1, {}), nested(31)):
            with self.assertRaises(WireError):
                frame(value)

    def read(self, data):
        values, many = read_frames(data)
        return list(values), many

    def test_read_all(self):
        self.assertEqual(self.read(()), ([], 0))
        for value in VALUES:
            self.assertEqual(self.read(frame(value)), ([value], len(frame(value))))
        data = sum((frame(value) for value in VALUES), ())
        self.assertEqual(self.read(data), (list(VALUES), len(data)))
        self.assertIsInstance(read_frames(data), tuple)

    def test_long_records(self):
        for many in (250, 65529, 65530, 70000):
            data = frame("x" * many) + frame("y")
            self.assertEqual(self.read(data), (["x" * many, "y"], len(data)))
            self.assertEqual(self.read(data[:many]), ([], 0))

    def test_cut_at_every_place(self):
        values = (None, ("term", 3, "a"), "", 70000, ())
        data = sum((frame(value) for value in values), ())
        ends = [len(sum((frame(value) for value in values[:many]), ())) for many in range(len(values) + 1)]
        for many in range(len(data) + 1):
            whole = max(at for at, end in enumerate(ends) if end <= many)
            self.assertEqual(self.read(data[:many]), (list(values[:whole]), ends[whole]))

    def test_damaged_at_every_byte(self):
        values = (("entry", 1, 1, ("nothing",)), "b", -5)
        data = sum((frame(value) for value in values), ())
        ends = [len(sum((frame(value) for value in values[:many]), ())) for many in range(len(values) + 1)]
        for at in range(len(data)):
            whole = max(place for place, end in enumerate(ends) if end <= at)
            for more in (1, 37, 128, 255):
                changed = data[:at] + ((data[at] + more) % 256,) + data[at + 1:]
                self.assertEqual(self.read(changed), (list(values[:whole]), ends[whole]))

    def test_a_record_that_is_no_value_counts_as_damaged(self):
        for body in ((), (0,), (1, 1), (4, 128, 0), (6, 9)):
            data = four(len(body)) + body + sum_of_bytes(body)
            self.assertEqual(self.read(data), ([], 0))
            self.assertEqual(self.read(frame("a") + data + frame("b")), (["a"], len(frame("a"))))

    def test_enormous_length(self):
        self.assertEqual(self.read((255, 255, 255, 255) + (1,) * 20), ([], 0))


class Kinds(unittest.TestCase):
    def test_errors_are_shard_errors(self):
        for call in (lambda: unpack(()), lambda: pack([]), lambda: sign_number("%")):
            with self.assertRaises(ShardError):
                call()


if __name__ == "__main__":
    unittest.main()
