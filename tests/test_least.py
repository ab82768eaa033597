"""The fewest rounds, with a plan and a reason, or that it is never done: points 1, 7, 8 and 9."""

import copy
import inspect
import itertools
import unittest

from piecedeal.errors import BadDeal, NoDeal
from piecedeal.least import least
from piecedeal.reasons import shows
from piecedeal.rounds import played
from tests import every
from tests.wrong import DEAL, EIGHT_TIES, HOLDING, RefusalCase

EVERYTHING = (0, 1, 2, 3)

# Four hands in a row, and in a ring.
IN_A_ROW = ((0, 1), (1, 2), (2, 3))
IN_A_RING = (*IN_A_ROW, (3, 0))


def bearing(pairs, letters):
    """Ties between these pairs that each bear so many letters."""
    return tuple((one, other, letters) for one, other in pairs)


class LeastCase(RefusalCase):
    """A test case that looks through what `least` tells."""

    def check(self, deal, holding, expected):
        """So many rounds are told, with a plan and a reason that hold; the reason is given back."""
        with self.subTest(deal=deal, holding=holding):
            told = least(deal, holding)
            self.assertIs(type(told), tuple)
            many, plan, reason = told
            self.assertIs(type(many), int)
            self.assertEqual(many, expected)
            self.check_plan(deal, holding, many, plan)
            self.assertIs(type(reason), tuple)
            self.assertIs(shows(deal, holding, many, reason), True)
            self.assertIs(shows(deal, holding, many + 1, reason), False)
            return reason

    def check_plan(self, deal, holding, many, plan):
        """The plan is a tuple of so many rounds, behind which the holding is done."""
        self.assertIs(type(plan), tuple)
        self.assertEqual(len(plan), many)
        self.assertEqual([type(letters) for letters in plan], [tuple] * many)
        holdings = played(deal, holding, plan)
        self.assertEqual(holdings[-1], every.done(deal))
        self.assertNotIn(every.done(deal), holdings[:-1])

    def check_never(self, deal, holding):
        """It is refused, with a reason that shows that it is never done."""
        with self.subTest(deal=deal, holding=holding):
            with self.refused(NoDeal) as caught:
                least(deal, holding)
            reason = caught.exception.reason
            self.assertIs(type(reason), tuple)
            self.assertEqual((len(reason), reason[0]), (3, "never"))
            self.assertIs(shows(deal, holding, None, reason), True)
            return reason


class Interface(unittest.TestCase):

    def test_it_stands_in_its_file_as_the_interface_lists_it(self):
        self.assertEqual(least.__module__, "piecedeal.least")
        self.assertEqual(list(inspect.signature(least).parameters), ["deal", "holding"])


class Fewest(LeastCase):

    def test_a_holding_that_is_done(self):
        for deal, holding in (
            ((1, 1, ()), ((0,),)),
            ((1, 4, ()), (EVERYTHING,)),
            ((3, 2, ()), ((0, 1),) * 3),
            (DEAL, ((0, 1, 2),) * 3),
            ((4, 4, EIGHT_TIES), (EVERYTHING,) * 4),
        ):
            with self.subTest(deal=deal):
                self.assertEqual(least(deal, holding), (0, (), ("none",)))

    def test_one_letter(self):
        self.assertEqual(least((2, 1, ((0, 1, 1),)), ((0,), ()))[:2], (1, (((0, 0),),)))
        self.assertEqual(least((2, 2, ((1, 0, 1),)), ((0,), (0, 1)))[:2], (1, (((0, 1),),)))

    def test_as_many_rounds_as_the_letters_want(self):
        for pieces, letters in itertools.product((1, 2, 3, 4), repeat=2):
            deal = (2, pieces, ((0, 1, letters),))
            self.check(deal, (EVERYTHING[:pieces], ()), -(-pieces // letters))

    def test_a_row(self):
        for pieces in (1, 2, 3, 4):
            holding = (EVERYTHING[:pieces], (), (), ())
            self.check((4, pieces, bearing(IN_A_ROW, 1)), holding, 2 + pieces)
            self.check((4, pieces, bearing(IN_A_ROW, 4)), holding, 3)

    def test_a_ring(self):
        holding = ((0,), (1,), (2,), (3,))
        self.check((4, 4, bearing(IN_A_RING, 1)), holding, 3)
        self.check((4, 4, bearing(IN_A_RING, 1)), (EVERYTHING, (), (), ()), 6)
        self.check((4, 4, bearing(IN_A_RING, 2)), (EVERYTHING, (), (), ()), 4)

    def test_hands_around_a_first_one(self):
        outwards = ((0, 1), (0, 2), (0, 3))
        self.check((4, 4, bearing(outwards, 1)), (EVERYTHING, (), (), ()), 4)
        self.check((4, 4, bearing(outwards, 3)), (EVERYTHING, (), (), ()), 2)
        both = (*outwards, (1, 0), (2, 0), (3, 0))
        self.check((4, 4, bearing(both, 1)), ((), (0, 1), (2,), (3,)), 4)
        self.check((4, 4, bearing(both, 4)), ((), (0, 1), (2,), (3,)), 2)

    def test_ties_that_bear_more_letters_than_there_are_pieces(self):
        self.check((2, 1, ((0, 1, 4), (1, 0, 4))), ((0,), ()), 1)
        self.check((2, 2, ((0, 1, 4), (1, 0, 3))), ((0,), (1,)), 1)
        self.check((3, 2, ((0, 1, 3), (1, 2, 4))), ((0, 1), (), ()), 2)

    def test_eight_ties_four_hands_four_pieces(self):
        self.check((4, 4, EIGHT_TIES), (EVERYTHING, (), (), ()), 3)
        self.check((4, 4, EIGHT_TIES), ((0, 3), (1,), (2,), ()), 2)
        self.check_never((4, 4, EIGHT_TIES), ((0,), (1,), (2,), (3,)))

    def test_it_is_not_enough_to_take_any_of_the_gains(self):
        deal = (3, 2, ((0, 1, 1), (0, 2, 1), (1, 2, 1), (2, 1, 1)))
        self.check(deal, ((0, 1), (), ()), 2)
        deal = (4, 2, ((0, 1, 1), (0, 2, 1), (1, 3, 1), (2, 3, 1), (3, 1, 2), (3, 2, 2)))
        self.check(deal, ((0, 1), (), (), ()), 2)

    def test_beside_the_fewest_that_the_test_finds(self):
        words = {}
        for deal, holding in every.small():
            many = every.fewest(deal, holding)
            if many is None:
                word = self.check_never(deal, holding)[0]
            else:
                word = self.check(deal, holding, many)[0]
            words[word] = words.get(word, 0) + 1
        self.assertEqual(sorted(words), ["cut", "never", "none", "table"])


class Reasons(LeastCase):

    def is_shown_by_a_cut(self, deal, holding, many):
        """Whether some cut shows that fewer rounds don't do."""
        return any(every.cut_shows(deal, holding, *cut) >= many for cut in every.every_cut(deal))

    def test_a_cut_if_some_cut_shows_it(self):
        for deal, holding in every.small():
            many = every.fewest(deal, holding)
            if many is not None and self.is_shown_by_a_cut(deal, holding, many):
                word, *cut = least(deal, holding)[2]
                self.assertEqual(word, "cut", (deal, holding))
                self.assertEqual(every.cut_shows(deal, holding, *cut), many)

    def test_cuts_that_need_several_hands_or_pieces_or_rounds_ahead(self):
        for deal, holding, many in (
            ((4, 4, bearing(IN_A_ROW, 1)), (EVERYTHING, (), (), ()), 6),
            ((4, 4, bearing(IN_A_RING, 2)), (EVERYTHING, (), (), ()), 4),
            ((3, 2, ((0, 1, 1), (1, 2, 2), (2, 1, 2))), ((0, 1), (), ()), 3),
            ((3, 4, ((0, 1, 1), (1, 2, 4), (2, 1, 4))), (EVERYTHING, (), ()), 5),
            ((3, 4, ((0, 1, 1), (0, 2, 1), (1, 2, 4), (2, 1, 4))), (EVERYTHING, (), ()), 3),
            ((4, 3, ((0, 1, 4), (1, 2, 4), (2, 3, 4), (0, 3, 1))), ((0, 1, 2), (), (), ()), 3),
        ):
            reason = self.check(deal, holding, many)
            shown = self.is_shown_by_a_cut(deal, holding, many)
            self.assertEqual(reason[0], "cut" if shown else "table")

    def test_a_cut_of_more_than_one_hand_alone(self):
        deal = (3, 4, ((0, 1, 1), (0, 2, 1), (1, 2, 4), (2, 1, 4)))
        holding = (EVERYTHING, (), ())
        for cut in every.every_cut(deal):
            if len(cut[0]) == 1:
                self.assertLess(every.cut_shows(deal, holding, *cut), 2)
        self.assertEqual(every.cut_shows(deal, holding, (1, 2), EVERYTHING, 0), 2)

    def test_a_table_where_no_cut_shows_it(self):
        for many, deal, holding in every.UNCUT:
            self.assertFalse(self.is_shown_by_a_cut(deal, holding, many))
            reason = self.check(deal, holding, many)
            word, table = reason
            self.assertEqual((word, len(table)), ("table", many))
            self.assertTrue(every.table_shows(deal, holding, table))

    def test_a_reason_of_fewer_rounds_shows_it_of_fewer_only(self):
        for deal, holding in every.small()[::5]:
            many = every.fewest(deal, holding)
            if many is not None:
                reason = least(deal, holding)[2]
                for more in (1, 2, 3, 9):
                    self.assertIs(shows(deal, holding, many + more, reason), False)
                self.assertIs(shows(deal, holding, None, reason), False)


class Never(LeastCase):

    def test_one_hand_without_a_piece(self):
        self.check_never((1, 1, ()), ((),))
        self.check_never((1, 4, ()), ((0, 1, 3),))

    def test_no_tie(self):
        self.check_never((2, 1, ()), ((0,), ()))
        self.check_never((2, 1, ()), ((), (0,)))
        self.check_never((4, 4, ()), (EVERYTHING, EVERYTHING, EVERYTHING, (0, 1, 2)))

    def test_a_piece_that_no_hand_has(self):
        self.check_never((2, 2, ((0, 1, 1), (1, 0, 1))), ((0,), (0,)))
        self.check_never((2, 2, ((0, 1, 1), (1, 0, 1))), ((1,), ()))
        self.check_never((4, 4, EIGHT_TIES), ((0, 1, 2), (1, 2), (), (0,)))

    def test_a_hand_to_which_no_tie_leads(self):
        deal = (3, 1, ((0, 1, 1), (1, 0, 1), (2, 0, 1)))
        self.assertEqual(self.check_never(deal, ((0,), (), ())), ("never", 0, (0, 1)))
        self.check(deal, ((), (), (0,)), 2)

    def test_hands_from_which_none_leads_on(self):
        deal = (4, 2, ((0, 1, 4), (1, 0, 4), (2, 3, 4), (3, 2, 4), (2, 1, 1)))
        self.check_never(deal, ((0, 1), (), (1,), ()))
        self.check_never(deal, ((1,), (), (0,), ()))
        self.check(deal, ((), (), (0,), (1,)), 3)

    def test_one_piece_of_several(self):
        deal = (2, 3, ((0, 1, 1),))
        for piece in range(3):
            other = tuple(number for number in range(3) if number != piece)
            self.check_never(deal, (other, (piece,)))
            self.assertEqual(self.check_never(deal, (other, (0, 1, 2)))[1], piece)

    def test_the_reason_does_not_show_it_of_a_number(self):
        for deal, holding in (((1, 1, ()), ((),)), ((2, 1, ()), ((0,), ()))):
            reason = self.check_never(deal, holding)
            for many in (0, 1, 2, 9):
                self.assertIs(shows(deal, holding, many, reason), False)


class Asked(RefusalCase):

    def test_what_is_no_deal_first(self):
        self.check_no_deals(least)

    def test_then_what_is_no_holding(self):
        self.check_no_holdings(lambda holding: least(DEAL, holding))

    def test_both_ahead_of_what_is_never_done(self):
        with self.refused(BadDeal):
            least((2, 1, ((0, 0, 1),)), ((), ()))
        self.check_no_holdings(lambda holding: least((3, 3, ()), holding))

    def test_what_is_handed_in_is_as_it_was_and_the_answer_the_same(self):
        for deal, holding in ((DEAL, HOLDING), *(pair[1:] for pair in every.UNCUT)):
            handed = (deal, holding)
            before = copy.deepcopy(handed)
            told = [least(deal, holding) for _ in range(3)]
            self.assertEqual(told, told[:1] * 3)
            self.assertEqual(handed, before)

    def test_what_is_never_done_is_refused_again_with_the_same_reason(self):
        reasons = []
        for _ in range(3):
            with self.refused(NoDeal) as caught:
                least((2, 1, ()), ((0,), ()))
            reasons.append(caught.exception.reason)
        self.assertEqual(reasons, reasons[:1] * 3)
