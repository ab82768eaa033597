"""What is best to be made of a holding in one round: points 1 and 6."""

import copy
import inspect
import unittest

from piecedeal.errors import BadDeal, BadHolding
from piecedeal.gains import gains
from tests.every import every_made, small, within
from tests.wrong import DEAL, EIGHT_TIES, HOLDING, NO_HOLDINGS, RefusalCase

EVERYTHING = (0, 1, 2, 3)


class Gains(unittest.TestCase):

    def check(self, deal, holding, *expected):
        """Just these are told."""
        told = gains(deal, holding)
        self.assertIsInstance(told, list)
        self.assertEqual(told, list(expected))

    def test_it_stands_in_its_file_as_the_interface_lists_it(self):
        self.assertEqual(gains.__module__, "piecedeal.gains")
        self.assertEqual(list(inspect.signature(gains).parameters), ["deal", "holding"])

    def test_one_hand(self):
        for held in ((), (0,), (1,), (0, 1)):
            self.check((1, 2, ()), (held,), (held,))

    def test_no_tie(self):
        self.check((3, 2, ()), ((0, 1), (), (1,)), ((0, 1), (), (1,)))

    def test_a_holding_that_is_done(self):
        self.check(DEAL, ((0, 1, 2),) * 3, ((0, 1, 2),) * 3)
        self.check((4, 4, EIGHT_TIES), (EVERYTHING,) * 4, (EVERYTHING,) * 4)

    def test_a_piece_that_no_hand_has(self):
        self.check((2, 2, ((0, 1, 1), (1, 0, 1))), ((1,), ()), ((1,), (1,)))
        self.check((2, 2, ((0, 1, 1), (1, 0, 1))), ((), ()), ((), ()))

    def test_a_tie_is_used_from_its_one_to_its_other_only(self):
        self.check((2, 1, ((0, 1, 1),)), ((0,), ()), ((0,), (0,)))
        self.check((2, 1, ((0, 1, 1),)), ((), (0,)), ((), (0,)))

    def test_each_choice_of_as_many_letters_as_a_tie_bears(self):
        deal = (2, 3, ((0, 1, 1),))
        full = (0, 1, 2)
        self.check(deal, (full, ()), (full, (0,)), (full, (1,)), (full, (2,)))
        deal = (2, 3, ((0, 1, 2),))
        self.check(deal, (full, ()), (full, (0, 1)), (full, (0, 2)), (full, (1, 2)))

    def test_a_tie_that_bears_more_letters_than_there_are_pieces(self):
        self.check((2, 1, ((0, 1, 4),)), ((0,), ()), ((0,), (0,)))
        self.check((2, 3, ((0, 1, 4),)), ((0, 1, 2), ()), ((0, 1, 2), (0, 1, 2)))
        self.check((2, 3, ((0, 1, 4),)), ((1,), (0,)), ((1,), (0, 1)))

    def test_pieces_that_a_hand_has_take_no_letter_from_others(self):
        self.check((2, 3, ((0, 1, 1),)), ((0, 1, 2), (0, 1)), ((0, 1, 2), (0, 1, 2)))
        self.check((2, 3, ((0, 1, 1),)), ((0, 1, 2), (1,)), ((0, 1, 2), (0, 1)), ((0, 1, 2), (1, 2)))

    def test_two_ties_do_not_bring_the_same_where_they_can_bring_more(self):
        self.check((3, 2, ((0, 2, 1), (1, 2, 1))), ((0, 1), (0,), ()), ((0, 1), (0,), (0, 1)))
        self.check((3, 2, ((0, 2, 1), (1, 2, 1))), ((0,), (0, 1), ()), ((0,), (0, 1), (0, 1)))
        self.check((3, 2, ((0, 2, 1), (1, 2, 1))), ((0,), (0,), ()), ((0,), (0,), (0,)))

    def test_pieces_that_come_in_the_round_are_not_sent_on_in_it(self):
        self.check((3, 1, ((0, 1, 1), (1, 2, 1))), ((0,), (), ()), ((0,), (0,), ()))

    def test_each_choice_of_one_hand_with_each_of_another_one_rising(self):
        full = (0, 1)
        self.check(
            (3, 2, ((0, 2, 1), (0, 1, 1))), (full, (), ()),
            (full, (0,), (0,)), (full, (0,), (1,)), (full, (1,), (0,)), (full, (1,), (1,)),
        )

    def test_they_rise_whichever_tie_brings_the_pieces(self):
        deal = (3, 4, ((0, 2, 1), (1, 2, 1)))
        self.check(deal, ((1, 3), (0, 2), ()), *(
            ((1, 3), (0, 2), held) for held in ((0, 1), (0, 3), (1, 2), (2, 3))
        ))

    def test_hands_send_one_another(self):
        self.check((2, 2, ((0, 1, 1), (1, 0, 1))), ((0,), (1,)), ((0, 1), (0, 1)))

    def test_eight_ties_four_hands_four_pieces(self):
        told = gains((4, 4, EIGHT_TIES), (EVERYTHING, (), (), ()))
        self.assertEqual(told, [
            (EVERYTHING, (one,), (two,), (three,))
            for one in EVERYTHING for two in EVERYTHING for three in EVERYTHING
        ])

    def test_beside_all_that_all_rounds_make(self):
        for deal, holding in small():
            made = every_made(deal, holding)
            told = gains(deal, holding)
            most = [one for one in made if not any(one != two and within(one, two) for two in made)]
            self.assertEqual(told, most, (deal, holding))
            self.assertTrue(all(any(within(one, two) for two in told) for one in made))

    def test_what_is_handed_in_is_as_it_was(self):
        handed = (DEAL, HOLDING)
        before = copy.deepcopy(handed)
        gains(*handed)
        self.assertEqual(handed, before)

    def test_a_list_that_was_changed_is_told_again_as_it_was(self):
        for deal, holding in ((DEAL, HOLDING), ((1, 1, ()), ((),))):
            told = gains(deal, holding)
            before = list(told)
            told[0] = None
            told.append("changed")
            told.reverse()
            self.assertEqual(gains(deal, holding), before)


class Refused(RefusalCase):

    def test_what_is_no_deal_first(self):
        self.check_no_deals(gains)

    def test_then_what_is_no_holding(self):
        self.check_no_holdings(lambda holding: gains(DEAL, holding))

    def test_both(self):
        with self.refused(BadDeal):
            gains((0, 1, ()), None)
        for holding in NO_HOLDINGS:
            with self.subTest(holding=holding), self.refused(BadHolding):
                gains((3, 3, ()), holding)
