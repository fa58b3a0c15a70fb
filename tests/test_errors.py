"""Point 3: the refusals' classes."""

import copy
import pickle
import unittest

from elderinn.errors import InnError, NoCrowd, NoGuest, NoRoom, NoRooms, NoText
from tests.support import REFUSALS, assert_refusal

VALUES = (0, -7, -10 ** 40, (5, -1), None, "no guest")


class MadeByHand(unittest.TestCase):
    def test_each_stands_straight_under_inn_error(self):
        for kind in REFUSALS:
            self.assertEqual(kind.__bases__, (InnError,))
        self.assertEqual(InnError.__bases__, (ValueError,))

    def test_names(self):
        names = [kind.__name__ for kind in (InnError, NoGuest, NoRooms, NoRoom, NoCrowd, NoText)]
        self.assertEqual(names, ["InnError", "NoGuest", "NoRooms", "NoRoom", "NoCrowd", "NoText"])

    def test_made_with_its_value_by_place(self):
        for kind in REFUSALS:
            for value in VALUES:
                assert_refusal(self, kind(value), kind, value)

    def test_made_with_its_value_by_name(self):
        for kind in REFUSALS:
            for value in VALUES:
                assert_refusal(self, kind(what=value), kind, value)

    def test_made_with_one_value_only(self):
        for kind in REFUSALS:
            with self.assertRaises(TypeError):
                kind()
            with self.assertRaises(TypeError):
                kind(1, 2)

    def test_inn_error_is_made_as_any_value_error(self):
        for args in ((), ("why",), ("why", 3), (7,)):
            self.assertEqual(InnError(*args).args, args)
            self.assertEqual(str(InnError(*args)), str(ValueError(*args)))
        self.assertFalse(hasattr(InnError("why"), "what"))
        with self.assertRaises(TypeError):
            InnError(what=3)

    def test_raised_and_caught(self):
        for kind in REFUSALS:
            for caught_as in (kind, InnError, ValueError):
                with self.assertRaises(caught_as) as caught:
                    raise kind(what=4)
                self.assertEqual(caught.exception.what, 4)

    def test_copies_keep_the_value(self):
        for kind in REFUSALS:
            for error in (kind((5, -1)), kind(what=(5, -1))):
                assert_refusal(self, copy.copy(error), kind, (5, -1))
                assert_refusal(self, pickle.loads(pickle.dumps(error)), kind, (5, -1))

    def test_the_message_tells_the_value(self):
        for kind in REFUSALS:
            self.assertIn("(5, -1)", str(kind((5, -1))))


if __name__ == "__main__":
    unittest.main()
