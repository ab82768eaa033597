"""Deals and holdings: points 1 to 3."""

import inspect
import itertools
import unittest

from piecedeal.deals import is_done, is_within
from piecedeal.errors import BadDeal, BadHolding
from tests.wrong import DEAL, EIGHT_TIES, HOLDING, NO_HOLDINGS, RefusalCase, tied


def all_held(pieces):
    """All that one hand can hold of so many pieces."""
    counts = range(pieces + 1)
    return [held for count in counts for held in itertools.combinations(range(pieces), count)]


class Deals(unittest.TestCase):

    def test_each_count_of_hands_and_pieces(self):
        for hands in (1, 2, 3, 4):
            for pieces in (1, 2, 3, 4):
                with self.subTest(hands=hands, pieces=pieces):
                    deal = (hands, pieces, ())
                    every = tuple(range(pieces))
                    self.assertIs(is_done(deal, (every,) * hands), True)
                    self.assertIs(is_done(deal, ((),) * hands), False)

    def test_each_count_of_letters(self):
        for letters in (1, 2, 3, 4):
            with self.subTest(letters=letters):
                self.assertIs(is_done(tied((0, 1, letters)), ((), (), ())), False)

    def test_no_tie_to_eight_ties(self):
        for count in range(9):
            with self.subTest(count=count):
                deal = (4, 1, EIGHT_TIES[:count])
                self.assertIs(is_done(deal, ((0,),) * 4), True)

    def test_a_tie_from_each_hand_to_each_other_one(self):
        for one, other in itertools.permutations(range(4), 2):
            with self.subTest(one=one, other=other):
                self.assertIs(is_done((4, 1, ((one, other, 1),)), ((),) * 4), False)

    def test_ties_there_and_back_and_to_several_hands(self):
        deal = tied((0, 1, 1), (1, 0, 1), (0, 2, 1), (2, 1, 1))
        self.assertIs(is_done(deal, ((0, 1),) * 3), True)

    def test_ties_need_not_rise(self):
        self.assertIs(is_done(tied((2, 0, 4), (0, 1, 1)), ((0, 1),) * 3), True)


class Done(RefusalCase):

    def test_it_stands_in_its_file_as_the_interface_lists_it(self):
        self.assertEqual(is_done.__module__, "piecedeal.deals")
        self.assertEqual(list(inspect.signature(is_done).parameters), ["deal", "holding"])

    def test_it_is_done_only_if_all_hands_have_all_pieces(self):
        deal = (3, 2, ())
        for holding in itertools.product(all_held(2), repeat=3):
            with self.subTest(holding=holding):
                self.assertIs(is_done(deal, holding), holding == ((0, 1), (0, 1), (0, 1)))

    def test_one_hand_with_one_piece(self):
        self.assertIs(is_done((1, 1, ()), ((0,),)), True)
        self.assertIs(is_done((1, 1, ()), ((),)), False)

    def test_four_hands_with_four_pieces(self):
        deal = (4, 4, EIGHT_TIES)
        every = (0, 1, 2, 3)
        self.assertIs(is_done(deal, (every, every, every, every)), True)
        self.assertIs(is_done(deal, (every, every, every, (0, 1, 3))), False)
        self.assertIs(is_done(deal, ((1, 2, 3), every, every, every)), False)

    def test_the_same_when_asked_again(self):
        for _ in range(3):
            self.assertIs(is_done(DEAL, HOLDING), False)
            self.assertIs(is_done(DEAL, ((0, 1, 2),) * 3), True)

    def test_refuses_what_is_no_deal_first(self):
        self.check_no_deals(is_done)

    def test_refuses_what_is_no_holding(self):
        self.check_no_holdings(lambda holding: is_done(DEAL, holding))


class Within(RefusalCase):

    def test_it_stands_in_its_file_as_the_interface_lists_it(self):
        self.assertEqual(is_within.__module__, "piecedeal.deals")
        self.assertEqual(list(inspect.signature(is_within).parameters), ["deal", "one", "other"])

    def test_it_is_within_if_each_hand_has_all_its_pieces_there_too(self):
        deal = (2, 2, ())
        holdings = list(itertools.product(all_held(2), repeat=2))
        for one, other in itertools.product(holdings, repeat=2):
            with self.subTest(one=one, other=other):
                expected = all(set(one[hand]) <= set(other[hand]) for hand in (0, 1))
                self.assertIs(is_within(deal, one, other), expected)

    def test_one_hand_with_four_pieces(self):
        for one, other in itertools.product(all_held(4), repeat=2):
            with self.subTest(one=one, other=other):
                self.assertIs(is_within((1, 4, ()), (one,), (other,)), set(one) <= set(other))

    def test_each_of_four_hands_counts(self):
        deal = (4, 1, EIGHT_TIES)
        for hand in range(4):
            with self.subTest(hand=hand):
                one = tuple((0,) if k == hand else () for k in range(4))
                self.assertIs(is_within(deal, one, ((0,),) * 4), True)
                self.assertIs(is_within(deal, ((),) * 4, one), True)
                self.assertIs(is_within(deal, one, ((),) * 4), False)
                self.assertIs(is_within(deal, ((0,),) * 4, one), False)

    def test_a_piece_with_another_hand_does_not_do(self):
        self.assertIs(is_within((2, 1, ()), ((0,), ()), ((), (0,))), False)

    def test_a_holding_is_within_itself(self):
        self.assertIs(is_within(DEAL, HOLDING, HOLDING), True)

    def test_the_same_when_asked_again(self):
        for _ in range(3):
            self.assertIs(is_within(DEAL, HOLDING, ((0, 1, 2), (), (1,))), True)
            self.assertIs(is_within(DEAL, ((0, 1, 2), (), (1,)), HOLDING), False)

    def test_refuses_what_is_no_deal_first(self):
        self.check_no_deals(lambda deal, holding: is_within(deal, holding, holding))
        with self.refused(BadDeal):
            is_within((0, 1, ()), ((), (), ()), None)

    def test_refuses_what_is_no_holding_at_either_place(self):
        self.check_no_holdings(lambda holding: is_within(DEAL, holding, HOLDING))
        self.check_no_holdings(lambda holding: is_within(DEAL, HOLDING, holding))
        self.check_no_holdings(lambda holding: is_within(DEAL, holding, holding))

    def test_refuses_no_holding_even_where_the_answer_is_plain(self):
        nothing, every = ((), (), ()), ((0, 1, 2),) * 3
        for holding in NO_HOLDINGS:
            with self.subTest(holding=holding):
                with self.refused(BadHolding):
                    is_within(DEAL, nothing, holding)
                with self.refused(BadHolding):
                    is_within(DEAL, every, holding)
                with self.refused(BadHolding):
                    is_within(DEAL, holding, every)
