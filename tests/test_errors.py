import unittest

from forkstamp import errors
from forkstamp.errors import BadOwn, BadRow, BadTold, NoHand, NoOwn, Shared, StampError


class ErrorsTest(unittest.TestCase):
    def test_stamp_error_stands_straight_under_value_error(self):
        self.assertEqual(StampError.__bases__, (ValueError,))

    def test_each_refusal_stands_straight_under_stamp_error(self):
        for refusal in (BadOwn, BadTold, Shared, NoOwn, BadRow, NoHand):
            with self.subTest(refusal=refusal):
                self.assertEqual(refusal.__bases__, (StampError,))

    def test_they_are_seven_and_stand_in_errors(self):
        found = [thing for thing in vars(errors).values() if isinstance(thing, type)]
        self.assertEqual(found, [StampError, BadOwn, BadTold, Shared, NoOwn, BadRow, NoHand])
        for refusal in found:
            self.assertEqual(refusal.__module__, "forkstamp.errors")

    def test_a_refusal_is_caught_as_a_stamp_error_and_as_no_other_one(self):
        refusals = (BadOwn, BadTold, Shared, NoOwn, BadRow, NoHand)
        for raised in refusals:
            with self.assertRaises(StampError):
                raise raised("refused")
            for other in refusals:
                self.assertEqual(issubclass(raised, other), raised is other)
