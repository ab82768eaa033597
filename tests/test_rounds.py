"""Rounds and plans as they are played, and with lost letters: points 1, 4, 5 and 11."""

import copy
import inspect
import itertools
import unittest

from piecedeal.errors import BadDeal, BadHolding, BadRound
from piecedeal.rounds import lossy, played
from tests.every import every_round
from tests.wrong import DEAL, EIGHT_TIES, HOLDING, NO_HOLDINGS, NO_PLANS, NO_ROUNDS, RefusalCase

# Two hands, the first of which sends the other one up to two of four pieces a round.
PAIR = (2, 4, ((0, 1, 2),))
FULL = ((0, 1, 2, 3), ())

# Four hands in a row, and one piece that goes along it.
ROW = (4, 1, ((0, 1, 1), (1, 2, 1), (2, 3, 1)))
FIRST = ((0,), (), (), ())
ALONG = (((0, 0),), ((1, 0),), ((2, 0),))

# Two ties lead to the last hand, which both others can send all they have.
MEET = (3, 2, ((0, 2, 2), (1, 2, 2)))


def lossless(deal, holding, plan):
    """A plan of which no letter is lost."""
    return lossy(deal, holding, plan, ())


class Interface(unittest.TestCase):

    def test_they_stand_in_their_file_as_the_interface_lists_them(self):
        self.assertEqual((played.__module__, lossy.__module__), ("piecedeal.rounds",) * 2)
        self.assertEqual(list(inspect.signature(played).parameters), ["deal", "holding", "plan"])
        self.assertEqual(
            list(inspect.signature(lossy).parameters), ["deal", "holding", "plan", "lost"]
        )


class Plans(unittest.TestCase):
    """What both tell of a plan that can be played where no letter is lost."""

    def check(self, deal, holding, plan, *behind):
        """Both tell the holding and then those behind the rounds."""
        for tell in (played, lossless):
            with self.subTest(tell=tell.__name__):
                told = tell(deal, holding, plan)
                self.assertIsInstance(told, list)
                self.assertEqual(told, [holding, *behind])

    def test_an_empty_plan(self):
        self.check(DEAL, HOLDING, ())
        self.check((1, 1, ()), ((),), ())
        self.check((4, 4, EIGHT_TIES), ((0, 1, 2, 3), (), (3,), ()), ())

    def test_empty_rounds(self):
        self.check(DEAL, HOLDING, ((),), HOLDING)
        self.check((1, 1, ()), ((0,),), ((), ()), ((0,),), ((0,),))

    def test_one_letter(self):
        self.check(DEAL, HOLDING, (((0, 2),),), ((0, 2), (2,), (1,)))

    def test_each_tie_leads_from_its_one_to_its_other(self):
        holding = ((0,), (1,), (2,))
        self.check(DEAL, holding, (((0, 0),),), ((0,), (0, 1), (2,)))
        self.check(DEAL, holding, (((1, 1),),), ((0,), (1,), (1, 2)))
        self.check(DEAL, holding, (((2, 2),),), ((0, 2), (1,), (2,)))
        self.check(DEAL, holding, (((0, 0), (1, 1), (2, 2)),), ((0, 2), (0, 1), (1, 2)))

    def test_a_letter_is_a_copy_and_the_rounds_go_on_from_what_stands(self):
        self.check(
            ROW, FIRST, ALONG,
            ((0,), (0,), (), ()),
            ((0,), (0,), (0,), ()),
            ((0,), (0,), (0,), (0,)),
        )

    def test_as_many_letters_by_a_tie_as_it_bears(self):
        for letters in (1, 2, 3, 4):
            deal = (2, 4, ((0, 1, letters),))
            for sent in itertools.combinations(range(4), letters):
                with self.subTest(letters=letters, sent=sent):
                    plan = (tuple((0, piece) for piece in sent),)
                    self.check(deal, FULL, plan, ((0, 1, 2, 3), sent))

    def test_each_tie_bears_its_own_letters(self):
        holding = ((0, 1), (0, 1), ())
        plan = (((0, 0), (0, 1), (1, 0), (1, 1)),)
        self.check(MEET, holding, plan, ((0, 1), (0, 1), (0, 1)))

    def test_a_tie_bears_its_letters_in_each_round(self):
        plan = (((0, 0), (0, 1)), ((0, 2), (0, 3)))
        self.check(PAIR, FULL, plan, ((0, 1, 2, 3), (0, 1)), ((0, 1, 2, 3), (0, 1, 2, 3)))

    def test_pieces_rise_in_whatever_order_they_come(self):
        plan = (((0, 3),), ((0, 0), (0, 2)), ((0, 1),))
        behind = [((0, 1, 2, 3), held) for held in ((3,), (0, 2, 3), (0, 1, 2, 3))]
        self.check(PAIR, FULL, plan, *behind)

    def test_a_piece_by_two_ties_is_there_once(self):
        holding = ((0, 1), (0,), ())
        self.check(MEET, holding, (((0, 0), (1, 0)),), ((0, 1), (0,), (0,)))
        self.check(MEET, holding, (((0, 1), (1, 0)),), ((0, 1), (0,), (0, 1)))

    def test_a_piece_that_the_other_hand_has_may_be_sent(self):
        self.check(PAIR, ((0, 1), (1,)), (((0, 1),),), ((0, 1), (1,)))
        again = ((0, 1), (0, 1))
        self.check(PAIR, ((0, 1), (1,)), (((0, 0),), ((0, 0),)), again, again)

    def test_hands_send_one_another_what_they_have_at_the_begin(self):
        deal = (2, 2, ((0, 1, 1), (1, 0, 1)))
        self.check(deal, ((0,), (1,)), (((0, 0), (1, 1)),), ((0, 1), (0, 1)))

    def test_eight_ties_four_hands_four_pieces(self):
        deal = (4, 4, EIGHT_TIES)
        holding = ((0, 1, 2, 3), (1,), (2,), ())
        plan = (tuple((tie, (0, 0, 3, 1, 1, 1, 2, 2)[tie]) for tie in range(8)),)
        self.check(deal, holding, plan, ((0, 1, 2, 3), (0, 1, 2), (0, 1, 2), (1, 3)))

    def test_what_is_handed_in_is_as_it_was(self):
        lost = ((0, 0, 0), (2, 2, 0))
        handed = (ROW, FIRST, ALONG, lost)
        before = copy.deepcopy(handed)
        played(ROW, FIRST, ALONG)
        lossy(ROW, FIRST, ALONG, lost)
        self.assertEqual(handed, before)

    def test_a_list_that_was_changed_is_told_again_as_it_was(self):
        expected = [HOLDING, ((0, 2), (2,), (1,)), ((0, 2), (2,), (1, 2))]
        for tell in (played, lossless):
            with self.subTest(tell=tell.__name__):
                told = tell(DEAL, HOLDING, (((0, 2),), ((1, 2),)))
                self.assertEqual(told, expected)
                told[0] = None
                told.append("changed")
                told.reverse()
                self.assertEqual(tell(DEAL, HOLDING, (((0, 2),), ((1, 2),))), expected)

    def test_an_empty_plans_list_that_was_changed_is_told_again_as_it_was(self):
        for tell in (played, lossless):
            with self.subTest(tell=tell.__name__):
                tell(DEAL, HOLDING, ()).clear()
                self.assertEqual(tell(DEAL, HOLDING, ()), [HOLDING])


class Refused(RefusalCase):
    """What both refuse."""

    def both_refuse(self, deal, holding, plan, number, why):
        """Both refuse the plan with this number and word."""
        for tell in (played, lossless):
            with self.subTest(tell=tell.__name__, plan=plan):
                with self.refused(BadRound, number=number, why=why):
                    tell(deal, holding, plan)

    def test_what_is_no_deal_first(self):
        for plan in ((), None, (((0, 0), (0, 0)),)):
            self.check_no_deals(lambda deal, holding: played(deal, holding, plan))
            self.check_no_deals(lambda deal, holding: lossless(deal, holding, plan))

    def test_then_what_is_no_holding(self):
        for plan in ((), None, (None,), (((0, 0), (0, 0)),), (((0, 1),),)):
            self.check_no_holdings(lambda holding: played(DEAL, holding, plan))
            self.check_no_holdings(lambda holding: lossless(DEAL, holding, plan))

    def test_a_plan_that_is_no_tuple(self):
        for plan in NO_PLANS:
            self.both_refuse(DEAL, HOLDING, plan, 0, "form")

    def test_a_round_of_another_form(self):
        for letters in NO_ROUNDS:
            self.both_refuse(DEAL, HOLDING, (letters,), 0, "form")
            self.both_refuse(DEAL, HOLDING, ((), ((0, 0),), letters), 2, "form")

    def test_a_letter_where_there_is_no_tie(self):
        self.both_refuse((2, 1, ()), ((0,), ()), (((0, 0),),), 0, "form")
        self.both_refuse((2, 1, ()), ((0,), ()), ((), ((-1, 0),)), 1, "form")

    def test_the_last_tie_and_piece_are_there_and_none_beyond(self):
        deal, holding = (4, 4, EIGHT_TIES), ((0, 1, 2, 3),) * 4
        for tell in (played, lossless):
            self.assertEqual(tell(deal, holding, (((7, 3),),)), [holding, holding])
        self.both_refuse(deal, holding, (((8, 3),),), 0, "form")
        self.both_refuse(deal, holding, (((7, 4),),), 0, "form")

    def test_more_letters_by_a_tie_than_it_bears(self):
        for letters in (1, 2, 3):
            deal = (2, 4, ((0, 1, letters),))
            for count in range(letters + 1, 5):
                full = tuple((0, piece) for piece in range(count))
                self.both_refuse(deal, FULL, (full,), 0, "many")
                self.both_refuse(deal, FULL, ((), (), full), 2, "many")

    def test_more_letters_by_any_of_several_ties(self):
        everything = ((0, 1, 2),) * 3
        self.both_refuse(DEAL, everything, (((0, 0), (0, 1), (0, 2)),), 0, "many")
        self.both_refuse(DEAL, everything, (((0, 0), (1, 0), (1, 1)),), 0, "many")
        self.both_refuse(DEAL, everything, (((1, 1), (1, 2), (2, 0)),), 0, "many")

    def test_form_before_many(self):
        falling = ((0, 2), (0, 1), (0, 0))
        self.both_refuse(PAIR, FULL, (falling,), 0, "form")
        self.both_refuse(PAIR, FULL, (((0, 0), (0, 1), (0, 2), (0, 4)),), 0, "form")
        self.both_refuse(PAIR, FULL, ([(0, 0), (0, 1), (0, 2)],), 0, "form")

    def test_form_before_piece(self):
        self.both_refuse(PAIR, ((), ()), (((0, 0), (0, 0)),), 0, "form")
        self.both_refuse(PAIR, ((), ()), (((0, 0), (0, 4)),), 0, "form")

    def test_many_before_piece(self):
        self.both_refuse(PAIR, ((), ()), (((0, 0), (0, 1), (0, 2)),), 0, "many")
        self.both_refuse(PAIR, ((0, 1), ()), (((0, 0), (0, 1), (0, 2)),), 0, "many")

    def test_the_first_round_that_can_not_be_has_its_number_told(self):
        many, form = ((0, 0), (0, 1), (0, 2)), ((0, 0), (0, 0))
        self.both_refuse(PAIR, FULL, (many, form), 0, "many")
        self.both_refuse(PAIR, FULL, (form, many), 0, "form")
        self.both_refuse(PAIR, FULL, (((0, 0),), many, form, None), 1, "many")
        self.both_refuse(PAIR, FULL, ((), ((0, 0),), None, many), 2, "form")


class Piece(RefusalCase):
    """A letter whose piece is not there is refused by `played` and brings nothing by `lossy`."""

    def missing(self, deal, holding, plan, number):
        """Only `played` refuses the plan."""
        with self.subTest(plan=plan):
            with self.refused(BadRound, number=number, why="piece"):
                played(deal, holding, plan)
            self.assertEqual(len(lossless(deal, holding, plan)), len(plan) + 1)

    def test_nobody_has_it(self):
        self.missing(PAIR, ((), ()), (((0, 0),),), 0)

    def test_the_hand_has_other_pieces(self):
        self.missing(PAIR, ((0, 1, 3), ()), (((0, 2),),), 0)

    def test_another_hand_has_it(self):
        self.missing(PAIR, ((), (0,)), (((0, 0),),), 0)
        self.missing(DEAL, HOLDING, (((1, 1),),), 0)

    def test_one_of_several_letters(self):
        self.missing(PAIR, ((0,), ()), (((0, 0), (0, 1)),), 0)
        self.missing(PAIR, ((1,), ()), (((0, 0), (0, 1)),), 0)

    def test_it_comes_only_in_the_same_round(self):
        self.missing(ROW, FIRST, (((0, 0), (1, 0)),), 0)
        self.missing(ROW, FIRST, (((0, 0),), ((1, 0), (2, 0))), 1)

    def test_a_later_round(self):
        self.missing(ROW, FIRST, (((0, 0),), (), ((2, 0),)), 2)

    def test_ahead_of_a_later_round_of_another_form(self):
        with self.refused(BadRound, number=1, why="piece"):
            played(ROW, FIRST, ((), ((1, 0),), None))
        with self.refused(BadRound, number=2, why="form"):
            lossless(ROW, FIRST, ((), ((1, 0),), None))

    def test_ahead_of_a_later_round_of_too_many(self):
        plan = (((0, 3),), ((0, 0), (0, 1), (0, 2)))
        with self.refused(BadRound, number=0, why="piece"):
            played(PAIR, ((0, 1, 2), ()), plan)
        with self.refused(BadRound, number=1, why="many"):
            lossless(PAIR, ((0, 1, 2), ()), plan)


class Lossy(RefusalCase):

    def check(self, deal, holding, plan, lost, *behind):
        """With these letters lost, in whatever order, the holdings behind the rounds are told."""
        for order in itertools.permutations(lost):
            with self.subTest(lost=order):
                told = lossy(deal, holding, plan, order)
                self.assertIsInstance(told, list)
                self.assertEqual(told, [holding, *behind])

    def as_played(self, deal, holding, plan, lost):
        """The lost ones change nothing."""
        self.check(deal, holding, plan, lost, *played(deal, holding, plan)[1:])

    def test_a_lost_letter_brings_nothing(self):
        self.check(PAIR, FULL, (((0, 1),),), ((0, 0, 1),), FULL)

    def test_all_else_comes(self):
        plan = (((0, 0), (0, 1)), ((0, 2), (0, 3)))
        self.check(
            PAIR, FULL, plan, ((0, 0, 1), (1, 0, 2)),
            ((0, 1, 2, 3), (0,)),
            ((0, 1, 2, 3), (0, 3)),
        )

    def test_the_sender_keeps_what_is_lost_and_may_send_it_again(self):
        plan = (((0, 1),), ((0, 1),))
        self.check(PAIR, FULL, plan, ((0, 0, 1),), FULL, ((0, 1, 2, 3), (1,)))

    def test_letters_without_a_piece_to_be_sent_bring_nothing(self):
        self.check(PAIR, ((1,), ()), (((0, 0), (0, 1)),), (), ((1,), (1,)))
        self.check(ROW, FIRST, (((0, 0), (1, 0)),), (), ((0,), (0,), (), ()))
        self.check(ROW, ((), (), (), (0,)), (((2, 0),),), (), ((), (), (), (0,)))

    def test_what_is_lost_is_missing_later_on(self):
        self.check(ROW, FIRST, ALONG, ((0, 0, 0),), FIRST, FIRST, FIRST)
        half = ((0,), (0,), (), ())
        self.check(ROW, FIRST, ALONG, ((1, 1, 0),), half, half, half)
        behind = played(ROW, FIRST, ALONG)
        self.check(ROW, FIRST, ALONG, ((2, 2, 0),), behind[1], behind[2], behind[2])

    def test_a_piece_that_comes_late_is_sent_on_from_then(self):
        plan = (((0, 0),), ((0, 0), (1, 0)), ((1, 0), (2, 0)), ((2, 0),))
        self.check(
            ROW, FIRST, plan, ((0, 0, 0),),
            FIRST,
            ((0,), (0,), (), ()),
            ((0,), (0,), (0,), ()),
            ((0,), (0,), (0,), (0,)),
        )

    def test_the_same_piece_comes_by_another_tie(self):
        holding = ((0,), (0,), ())
        plan = (((0, 0), (1, 0)),)
        self.check(MEET, holding, plan, ((0, 0, 0),), ((0,), (0,), (0,)))
        self.check(MEET, holding, plan, ((0, 1, 0),), ((0,), (0,), (0,)))
        self.check(MEET, holding, plan, ((0, 0, 0), (0, 1, 0)), holding)

    def test_a_hand_does_not_lose_what_it_had(self):
        self.check(PAIR, ((0,), (0,)), (((0, 0),),), ((0, 0, 0),), ((0,), (0,)))

    def test_each_letter_of_a_plan_can_be_lost_alone(self):
        holding = ((0, 1), (), ())
        deal = (3, 2, ((0, 1, 2), (0, 2, 2)))
        plan = (((0, 0), (0, 1), (1, 0), (1, 1)),)
        for tie, piece in plan[0]:
            held = {0: (0, 1), 1: (0, 1)}
            held[tie] = (1 - piece,)
            self.check(deal, holding, plan, ((0, tie, piece),), ((0, 1), held[0], held[1]))

    def test_none_lost_is_as_played(self):
        self.as_played(ROW, FIRST, ALONG, ())
        self.as_played(PAIR, FULL, (((0, 0), (0, 3)), (), ((0, 1),)), ())

    def test_lost_ones_that_nobody_sent_change_nothing(self):
        self.as_played(ROW, FIRST, ALONG, ((0, 1, 0), (1, 0, 0), (1, 2, 0), (2, 0, 0)))
        self.as_played(PAIR, FULL, (((0, 0), (0, 1)),), ((0, 0, 2), (0, 0, 3)))
        self.as_played(PAIR, FULL, ((),), ((0, 0, 0),))
        self.as_played(PAIR, FULL, (), ((0, 0, 0),))

    def test_lost_ones_of_rounds_that_there_are_not_change_nothing(self):
        self.as_played(ROW, FIRST, ALONG, ((3, 0, 0), (-1, 2, 0), (-3, 0, 0), (99, 1, 0)))

    def test_lost_ones_of_ties_that_there_are_not_change_nothing(self):
        self.as_played(ROW, FIRST, ALONG, ((0, 3, 0), (0, -3, 0), (2, -1, 0), (1, 99, 0)))
        self.as_played((1, 1, ()), ((0,),), ((),), ((0, 0, 0), (0, -1, 0)))

    def test_lost_ones_of_pieces_that_there_are_not_change_nothing(self):
        self.as_played(ROW, FIRST, ALONG, ((0, 0, 1), (0, 0, -1), (1, 1, 4), (2, 2, 99)))

    def test_one_told_twice_is_lost_once(self):
        plan = (((0, 0), (0, 1)), ((0, 0),))
        behind = (((0, 1, 2, 3), (1,)), ((0, 1, 2, 3), (0, 1)))
        self.check(PAIR, FULL, plan, ((0, 0, 0), (0, 0, 0)), *behind)
        self.check(PAIR, FULL, plan, ((0, 0, 0), (5, 0, 0), (0, 0, 0)), *behind)

    def test_a_lost_one_without_a_piece_to_be_sent(self):
        self.check(PAIR, ((1,), ()), (((0, 0), (0, 1)),), ((0, 0, 0),), ((1,), (1,)))

    def test_many_counts_lost_letters_and_such_as_can_not_be_sent_too(self):
        plan = (((0, 0), (0, 1), (0, 2)),)
        for holding in (FULL, ((), ()), ((1,), ())):
            for lost in ((), ((0, 0, 0),), ((0, 0, 0), (0, 0, 1), (0, 0, 2))):
                with self.subTest(holding=holding, lost=lost):
                    with self.refused(BadRound, number=0, why="many"):
                        lossy(PAIR, holding, plan, lost)

    def test_the_form_of_lost_letters_counts_too(self):
        with self.refused(BadRound, number=1, why="form"):
            lossy(PAIR, FULL, ((), ((0, 4),)), ((1, 0, 4),))
        with self.refused(BadRound, number=0, why="form"):
            lossy(PAIR, FULL, (((0, 0), (0, 0)),), ((0, 0, 0),))
        with self.refused(BadRound, number=0, why="form"):
            lossy(PAIR, FULL, None, ((0, 0, 0),))

    def test_no_deal_and_no_holding_ahead_of_all_else_with_lost_ones_too(self):
        lost = ((0, 0, 0),)
        with self.refused(BadDeal):
            lossy((2, 4, ((0, 0, 1),)), None, None, lost)
        for holding in NO_HOLDINGS:
            with self.subTest(holding=holding), self.refused(BadHolding):
                lossy(DEAL, holding, None, lost)

    def test_a_list_that_was_changed_is_told_again_as_it_was(self):
        plan, lost = (((0, 0), (0, 1)),), ((0, 0, 1),)
        expected = [FULL, ((0, 1, 2, 3), (0,))]
        told = lossy(PAIR, FULL, plan, lost)
        self.assertEqual(told, expected)
        told[1] = FULL
        told.pop(0)
        self.assertEqual(lossy(PAIR, FULL, plan, lost), expected)


class EveryPlan(unittest.TestCase):
    """All plans of two rounds of a small deal, beside a second reckoning of what comes."""

    DEAL = (3, 2, ((0, 1, 1), (1, 2, 2), (2, 0, 1)))
    HOLDING = ((0, 1), (), (0,))

    def reckoned(self, plan, lost):
        """The holdings, and the first round with a piece that is not there, or None."""
        ties = self.DEAL[2]
        have = {(hand, piece) for hand in range(3) for piece in self.HOLDING[hand]}
        told, missing = [self.HOLDING], None
        for number, letters in enumerate(plan):
            here = [(t, p) for t, p in letters if (ties[t][0], p) in have]
            if len(here) < len(letters) and missing is None:
                missing = number
            have = have | {(ties[t][1], p) for t, p in here if (number, t, p) not in lost}
            told.append(tuple(tuple(p for p in (0, 1) if (h, p) in have) for h in range(3)))
        return told, missing

    def test_played_and_lossy(self):
        lost = ((0, 0, 0), (0, 2, 0), (1, 1, 1))
        for plan in itertools.product(every_round(self.DEAL), repeat=2):
            told, missing = self.reckoned(plan, ())
            self.assertEqual(lossless(self.DEAL, self.HOLDING, plan), told)
            self.assertEqual(
                lossy(self.DEAL, self.HOLDING, plan, lost), self.reckoned(plan, lost)[0]
            )
            if missing is None:
                self.assertEqual(played(self.DEAL, self.HOLDING, plan), told)
            else:
                with self.assertRaises(BadRound) as caught:
                    played(self.DEAL, self.HOLDING, plan)
                error = caught.exception
                self.assertEqual((error.number, error.why), (missing, "piece"))
