"""Point [18]: the errors and their bases."""

import unittest

from shardstack import errors

NAMES = ("WireError StoreError LogError MachineError MapError AskError CheckError TextError TableError LockError "
         "QueueError PlaceError").split()


class Errors(unittest.TestCase):
    def test_base(self):
        self.assertEqual(errors.ShardError.__bases__, (ValueError,))

    def test_each_stands_directly_under_the_base(self):
        for name in NAMES:
            self.assertEqual(getattr(errors, name).__bases__, (errors.ShardError,), name)

    def test_there_are_no_others(self):
        found = [name for name, one in vars(errors).items() if isinstance(one, type) and issubclass(one, Exception)]
        self.assertEqual(sorted(found), sorted(NAMES + ["ShardError"]))

    def test_only_the_base_stands_directly_under_value_error(self):
        found = [one for one in vars(errors).values() if isinstance(one, type) and ValueError in one.__bases__]
        self.assertEqual(found, [errors.ShardError])

    def test_none_is_caught_as_another(self):
        for name in NAMES:
            for other in NAMES:
                if name != other:
                    self.assertFalse(issubclass(getattr(errors, name), getattr(errors, other)))

    def test_messages(self):
        for name in NAMES:
            with self.assertRaises(errors.ShardError) as caught:
                raise getattr(errors, name)("why")
            self.assertEqual(str(caught.exception), "why")


if __name__ == "__main__":
    unittest.main()
