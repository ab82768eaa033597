"""By which letters a hand has a piece, and who knows of it: points 1 and 14."""

import copy
import inspect
import itertools
import unittest

from piecedeal.errors import BadDeal, BadHolding, BadRound
from piecedeal.least import least
from piecedeal.rounds import played
from piecedeal.ways import knowers, way
from tests import every
from tests.wrong import DEAL, EIGHT_TIES, HOLDING, NO_HOLDINGS, NO_PLANS, NO_ROUNDS, RefusalCase

BOTH = (way, knowers)

# Four hands in a row, and one piece that goes along it.
ROW = (4, 1, ((0, 1, 1), (1, 2, 1), (2, 3, 1)))
FIRST = ((0,), (), (), ())
ALONG = (((0, 0),), ((1, 0),), ((2, 0),))

# A first hand, two between, and a last one to which they and the first one lead.
MEET = (4, 2, ((0, 1, 2), (0, 2, 2), (2, 3, 2), (1, 3, 2), (0, 3, 2)))
BEGIN = ((0, 1), (), (), ())
SPREAD = ((0, 0), (1, 0))

# Two hands that can send each other two pieces, and a third one that can send to both.
RETURN = (3, 2, ((0, 1, 2), (1, 0, 2), (2, 0, 2), (2, 1, 2)))


class Interface(unittest.TestCase):

    def test_they_stand_in_their_file_as_the_interface_lists_them(self):
        for ask in BOTH:
            self.assertEqual(ask.__module__, "piecedeal.ways")
            self.assertEqual(
                list(inspect.signature(ask).parameters), ["deal", "holding", "plan", "hand", "piece"]
            )


class Way(unittest.TestCase):

    def check(self, deal, holding, plan, hand, piece, expected):
        """Just this is told, of plain tuples."""
        with self.subTest(plan=plan, hand=hand, piece=piece):
            told = way(deal, holding, plan, hand, piece)
            self.assertEqual(told, expected)
            self.assertIs(type(told), type(expected))
            for step in told or ():
                self.assertEqual((type(step), *map(type, step)), (tuple, int, int))

    def test_a_piece_had_at_first(self):
        self.check(ROW, FIRST, (), 0, 0, [])
        self.check(ROW, FIRST, ALONG, 0, 0, [])
        self.check((1, 1, ()), ((0,),), ((), ()), 0, 0, [])
        self.check(DEAL, HOLDING, (((0, 0),),), 2, 1, [])

    def test_a_piece_had_at_first_that_comes_once_more(self):
        holding = ((0,), (0,), ())
        self.check(RETURN, holding, (((0, 0), (1, 0)),), 0, 0, [])
        self.check(RETURN, holding, (((0, 0),), ((1, 0),), ((0, 0),)), 1, 0, [])
        self.check(RETURN, ((0,), (), ()), (((0, 0),), ((1, 0),)), 0, 0, [])

    def test_a_piece_that_the_hand_has_not_at_the_end(self):
        self.check(ROW, FIRST, (), 1, 0, None)
        self.check(ROW, FIRST, ALONG[:2], 3, 0, None)
        self.check((1, 1, ()), ((),), (), 0, 0, None)
        self.check((2, 2, ((0, 1, 1),)), ((0, 1), ()), (((0, 0),),), 1, 1, None)

    def test_a_piece_that_no_hand_has(self):
        for hand in range(3):
            self.check(RETURN, ((0,), (0,), ()), (((0, 0), (1, 0)),), hand, 1, None)

    def test_one_letter(self):
        self.check(ROW, FIRST, ALONG[:1], 1, 0, [(0, 0)])
        self.check(ROW, FIRST, ((), (), ((0, 0),)), 1, 0, [(2, 0)])
        self.check(MEET, BEGIN, (((4, 1),),), 3, 1, [(0, 4)])

    def test_several_hands_from_the_one_that_had_it_at_first_on(self):
        self.check(ROW, FIRST, ALONG, 1, 0, [(0, 0)])
        self.check(ROW, FIRST, ALONG, 2, 0, [(0, 0), (1, 1)])
        self.check(ROW, FIRST, ALONG, 3, 0, [(0, 0), (1, 1), (2, 2)])

    def test_rounds_between_in_which_it_is_not_sent(self):
        plan = ((), ((0, 0),), (), ((1, 0),), (), ((2, 0),), ())
        self.check(ROW, FIRST, plan, 3, 0, [(1, 0), (3, 1), (5, 2)])

    def test_it_goes_back_to_the_nearest_hand_that_had_it_at_first(self):
        self.check(ROW, ((0,), (), (0,), ()), ALONG, 3, 0, [(2, 2)])
        self.check(ROW, ((0,), (0,), (), ()), ALONG, 3, 0, [(1, 1), (2, 2)])

    def test_of_several_letters_in_one_round_the_least_tie(self):
        self.check(MEET, BEGIN, (SPREAD, ((2, 0), (3, 0), (4, 0))), 3, 0, [(0, 1), (1, 2)])
        self.check(MEET, BEGIN, (SPREAD, ((3, 0), (4, 0))), 3, 0, [(0, 0), (1, 3)])
        self.check(MEET, BEGIN, (SPREAD, ((2, 0), (4, 0))), 3, 0, [(0, 1), (1, 2)])

    def test_the_least_tie_though_it_leads_from_a_hand_of_a_greater_number(self):
        deal = (3, 1, ((1, 2, 1), (0, 2, 1), (0, 1, 1)))
        self.check(deal, ((0,), (0,), ()), (((0, 0), (1, 0)),), 2, 0, [(0, 0)])
        self.check(deal, ((0,), (), ()), (((2, 0),), ((0, 0), (1, 0))), 2, 0, [(0, 2), (1, 0)])

    def test_the_first_round_though_a_later_one_has_a_lesser_tie(self):
        self.check(MEET, BEGIN, (SPREAD, ((4, 0),), ((2, 0), (3, 0))), 3, 0, [(1, 4)])
        self.check(MEET, BEGIN, (SPREAD, ((3, 0),), ((2, 0),)), 3, 0, [(0, 0), (1, 3)])
        self.check(MEET, BEGIN, (((0, 0), (1, 0), (4, 0)), ((2, 0), (3, 0))), 3, 0, [(0, 4)])

    def test_again_later_by_the_same_tie(self):
        plan = (((0, 0),), ((0, 0), (1, 0)), ((0, 0), (1, 0), (2, 0)), ((2, 0),))
        self.check(ROW, FIRST, plan, 1, 0, [(0, 0)])
        self.check(ROW, FIRST, plan, 2, 0, [(0, 0), (1, 1)])
        self.check(ROW, FIRST, plan, 3, 0, [(0, 0), (1, 1), (2, 2)])

    def test_the_sender_got_it_once_more_behind_its_letter(self):
        plan = (((4, 0), (1, 0)), ((2, 0),), ((0, 0), (1, 0)), ((3, 0),))
        self.check(MEET, BEGIN, tuple(tuple(sorted(letters)) for letters in plan), 3, 0, [(0, 4)])
        deal = (3, 1, ((0, 1, 1), (1, 2, 1), (2, 1, 1)))
        self.check(deal, ((0,), (), ()), (((0, 0),), ((1, 0),), ((0, 0), (2, 0))), 2, 0, [(0, 0), (1, 1)])
        self.check(deal, ((0,), (), ()), (((0, 0),), ((1, 0),), ((0, 0), (2, 0))), 1, 0, [(0, 0)])

    def test_other_pieces_change_nothing(self):
        plan = (((0, 0), (1, 1)), ((2, 1), (3, 0)))
        self.check(MEET, BEGIN, plan, 3, 0, [(0, 0), (1, 3)])
        self.check(MEET, BEGIN, plan, 3, 1, [(0, 1), (1, 2)])
        self.check(MEET, BEGIN, plan, 2, 0, None)
        self.check(MEET, BEGIN, plan, 1, 1, None)

    def test_eight_ties_four_hands_four_pieces(self):
        deal, holding = (4, 4, EIGHT_TIES), ((0, 1, 2, 3), (), (), ())
        plan = (((0, 3), (1, 2), (2, 1)), ((4, 3), (7, 2)))
        self.check(deal, holding, plan, 2, 3, [(0, 0), (1, 4)])
        self.check(deal, holding, plan, 1, 2, [(0, 1), (1, 7)])
        self.check(deal, holding, plan, 3, 1, [(0, 2)])

    def test_a_list_that_was_changed_is_told_again_as_it_was(self):
        for hand in range(4):
            told = way(ROW, FIRST, ALONG, hand, 0)
            before = list(told)
            told.append((9, 9))
            told.reverse()
            self.check(ROW, FIRST, ALONG, hand, 0, before)


class Knowers(unittest.TestCase):

    def check(self, deal, holding, plan, hand, piece, *expected):
        """Just these are told."""
        with self.subTest(plan=plan, hand=hand, piece=piece):
            told = knowers(deal, holding, plan, hand, piece)
            self.assertIs(type(told), list)
            self.assertEqual(told, list(expected))
            self.assertEqual([type(one) for one in told], [int] * len(told))

    def test_no_letters(self):
        self.check(ROW, FIRST, (), 0, 0)
        self.check(ROW, FIRST, ((), ()), 0, 0)
        self.check((1, 1, ()), ((0,),), ((),), 0, 0)
        self.check((1, 1, ()), ((),), (), 0, 0)

    def test_who_sent_it_to_the_hand(self):
        self.check(ROW, FIRST, ALONG[:1], 1, 0, 0)
        self.check(ROW, FIRST, ALONG, 3, 0, 2)

    def test_who_got_it_from_the_hand(self):
        self.check(ROW, FIRST, ALONG, 0, 0, 1)
        self.check(MEET, BEGIN, (((0, 0),), ((1, 0),), ((4, 0),)), 0, 0, 1, 2, 3)
        self.check(MEET, BEGIN, (((4, 0),), ((1, 0),)), 0, 0, 2, 3)

    def test_both(self):
        self.check(ROW, FIRST, ALONG, 1, 0, 0, 2)
        self.check(ROW, FIRST, ALONG, 2, 0, 1, 3)

    def test_one_that_did_both_or_often_is_told_once(self):
        self.check(RETURN, ((0,), (), ()), (((0, 0),), ((1, 0),)), 0, 0, 1)
        self.check(RETURN, ((0,), (), ()), (((0, 0),), ((1, 0),)), 1, 0, 0)
        self.check(RETURN, ((0,), (), ()), (((0, 0),), ((0, 0),), ((0, 0),)), 0, 0, 1)
        self.check(RETURN, ((0,), (0,), (0,)), (((0, 0), (1, 0), (2, 0)), ((2, 0),)), 0, 0, 1, 2)

    def test_they_rise_whatever_the_order_of_ties_and_rounds(self):
        deal = (4, 1, ((3, 1, 1), (1, 2, 1), (0, 1, 1)))
        self.check(deal, ((0,), (), (), (0,)), (((0, 0),), ((1, 0), (2, 0))), 1, 0, 0, 2, 3)
        self.check(deal, ((0,), (0,), (), (0,)), (((1, 0),), ((0, 0),), ((2, 0),)), 1, 0, 0, 2, 3)

    def test_a_letter_of_a_piece_that_the_hand_already_had(self):
        self.check(ROW, ((0,), (0,), (), ()), ALONG[:1], 1, 0, 0)
        self.check(ROW, ((0,), (0,), (), ()), ALONG[:1], 0, 0, 1)
        self.check(MEET, BEGIN, (SPREAD, ((2, 0),), ((3, 0),), ((4, 0),)), 3, 0, 0, 1, 2)

    def test_letters_between_other_hands_do_not_count(self):
        self.check(ROW, FIRST, ALONG, 3, 0, 2)
        self.check(ROW, ((0,), (), (), (0,)), ALONG[:2], 3, 0)
        self.check(RETURN, ((), (), (0,)), (((2, 0), (3, 0)),), 0, 0, 2)

    def test_hands_that_have_the_piece_but_sent_nothing_do_not_know(self):
        self.check(ROW, ((0,),) * 4, (), 1, 0)
        self.check(ROW, ((0,),) * 4, (((0, 0),),), 2, 0)

    def test_letters_of_other_pieces_do_not_count(self):
        plan = (((0, 0), (1, 1)), ((2, 1), (3, 0)))
        self.check(MEET, BEGIN, plan, 0, 0, 1)
        self.check(MEET, BEGIN, plan, 0, 1, 2)
        self.check(MEET, BEGIN, plan, 3, 0, 1)
        self.check(MEET, BEGIN, plan, 3, 1, 2)
        self.check(MEET, BEGIN, plan, 2, 0)

    def test_a_piece_that_the_hand_has_not_at_the_end(self):
        self.check(ROW, FIRST, ALONG[:2], 3, 0)
        self.check(RETURN, ((0,), (0,), ()), (((0, 0),),), 0, 1)
        self.check(ROW, ((),) * 4, (), 2, 0)

    def test_a_list_that_was_changed_is_told_again_as_it_was(self):
        for hand in range(4):
            told = knowers(ROW, FIRST, ALONG, hand, 0)
            before = list(told)
            told.insert(0, 9)
            told.reverse()
            self.check(ROW, FIRST, ALONG, hand, 0, *before)


class Reckoned(unittest.TestCase):
    """Both beside what the test finds by going onwards through the rounds."""

    def reckoned(self, deal, holding, plan):
        """The ways of all hands to all pieces that they have, and who knows of which."""
        _, pieces, ties = deal
        ways = {(hand, piece): [] for hand, held in enumerate(holding) for piece in held}
        known = {}
        for number, letters in enumerate(plan):
            before = dict(ways)
            for tie, piece in letters:
                one, other, _ = ties[tie]
                known.setdefault((one, piece), set()).add(other)
                known.setdefault((other, piece), set()).add(one)
                # The ties of a round rise, so the first letter is the one of the least tie.
                ways.setdefault((other, piece), before[one, piece] + [(number, tie)])
        return ways, known

    def check(self, deal, holding, plan):
        """All that can be asked of the plan is told as the test finds it."""
        ways, known = self.reckoned(deal, holding, plan)
        for hand, piece in itertools.product(range(deal[0]), range(deal[1])):
            asked = (deal, holding, plan, hand, piece)
            self.assertEqual(way(*asked), ways.get((hand, piece)), asked)
            self.assertEqual(knowers(*asked), sorted(known.get((hand, piece), ())), asked)

    def test_all_plans_of_up_to_three_rounds(self):
        deal = (3, 1, ((0, 1, 1), (1, 2, 1), (2, 1, 1), (0, 2, 1)))
        for holding in (((0,), (), ()), ((0,), (0,), ()), ((), (0,), (0,))):
            for count in range(4):
                self.check_playable(deal, holding, itertools.product(every.every_round(deal), repeat=count))

    def test_plans_of_two_pieces(self):
        deal = (3, 2, ((2, 1, 1), (0, 2, 2), (0, 1, 1), (1, 2, 1)))
        for holding in (((0, 1), (), ()), ((0,), (1,), ())):
            self.check_playable(deal, holding, itertools.product(every.every_round(deal), repeat=2))

    def check_playable(self, deal, holding, plans):
        """All of the plans that can be played are told as the test finds them, and there are some."""
        count = 0
        for plan in plans:
            try:
                played(deal, holding, plan)
            except BadRound:
                continue
            self.check(deal, holding, plan)
            count += 1
        self.assertGreater(count, 0)

    def test_plans_of_the_fewest_rounds(self):
        for deal, holding in every.small():
            if every.fewest(deal, holding) is not None:
                self.check(deal, holding, least(deal, holding)[1])


class Refused(RefusalCase):

    def test_what_is_no_deal_first(self):
        for plan in ((), None, (((0, 0), (0, 0)),)):
            for ask in BOTH:
                self.check_no_deals(lambda deal, holding: ask(deal, holding, plan, 0, 0))

    def test_then_what_is_no_holding(self):
        for plan in ((), None, (None,), (((0, 0), (0, 0)),), (((0, 1),),)):
            for ask in BOTH:
                self.check_no_holdings(lambda holding: ask(DEAL, holding, plan, 0, 0))

    def both_refuse(self, deal, holding, plan, number, why):
        """Both refuse the plan with this number and word, whatever is asked of it."""
        for ask, hand, piece in itertools.product(BOTH, range(deal[0]), range(deal[1])):
            with self.subTest(ask=ask.__name__, plan=plan, hand=hand, piece=piece):
                with self.refused(BadRound, number=number, why=why):
                    ask(deal, holding, plan, hand, piece)

    def test_a_plan_that_is_no_tuple(self):
        for plan in NO_PLANS:
            self.both_refuse(DEAL, HOLDING, plan, 0, "form")

    def test_a_round_of_another_form(self):
        for letters in NO_ROUNDS:
            self.both_refuse(DEAL, HOLDING, (letters,), 0, "form")
            self.both_refuse(DEAL, HOLDING, ((), ((0, 0),), letters), 2, "form")

    def test_more_letters_than_a_tie_bears(self):
        self.both_refuse(DEAL, ((0, 1, 2),) * 3, (((0, 0), (0, 1), (0, 2)),), 0, "many")
        self.both_refuse(DEAL, ((0, 1, 2),) * 3, ((), ((1, 0), (1, 1))), 1, "many")

    def test_a_piece_that_is_not_there_to_be_sent(self):
        self.both_refuse(ROW, FIRST, (((1, 0),),), 0, "piece")
        self.both_refuse(ROW, FIRST, (((0, 0),), (), ((2, 0),)), 2, "piece")
        self.both_refuse(ROW, FIRST, (((0, 0), (1, 0)),), 0, "piece")

    def test_what_is_asked_behind_a_refusal_is_answered_as_ahead_of_it(self):
        for _ in range(3):
            self.both_refuse(ROW, FIRST, (((1, 0),),), 0, "piece")
            with self.refused(BadDeal):
                way((0, 1, ()), (), (), 0, 0)
            with self.refused(BadHolding):
                knowers(DEAL, NO_HOLDINGS[0], (), 0, 0)
            self.assertEqual(way(ROW, FIRST, ALONG, 2, 0), [(0, 0), (1, 1)])
            self.assertEqual(knowers(ROW, FIRST, ALONG, 2, 0), [1, 3])


class Asked(unittest.TestCase):

    def test_what_is_handed_in_is_as_it_was_and_the_answer_the_same(self):
        for ask, hand in itertools.product(BOTH, range(4)):
            handed = (MEET, BEGIN, (SPREAD, ((2, 0), (4, 0))), hand, 0)
            before = copy.deepcopy(handed)
            told = [ask(*handed) for _ in range(3)]
            self.assertEqual(told, told[:1] * 3)
            self.assertEqual(handed, before)
