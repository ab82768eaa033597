"""The errors of the interface."""

import unittest

from piecedeal.errors import BadDeal, BadHolding, BadRound, BadText, DealError, NoDeal


class Errors(unittest.TestCase):

    def test_any_refusal_is_a_value_error(self):
        self.assertEqual(DealError.__bases__, (ValueError,))

    def test_each_refusal_is_straight_under_deal_error(self):
        for error in (BadDeal, BadHolding, BadRound, NoDeal, BadText):
            with self.subTest(error=error.__name__):
                self.assertEqual(error.__bases__, (DealError,))

    def test_each_is_defined_in_the_file_of_errors(self):
        for error in (DealError, BadDeal, BadHolding, BadRound, NoDeal, BadText):
            with self.subTest(error=error.__name__):
                self.assertEqual(error.__module__, "piecedeal.errors")

    def test_a_bad_round_has_its_number_and_why(self):
        error = BadRound(3, "many")
        self.assertEqual((error.number, error.why), (3, "many"))

    def test_no_deal_has_its_reason(self):
        reason = ("never", 0, (1, 2))
        self.assertEqual(NoDeal(reason).reason, reason)
