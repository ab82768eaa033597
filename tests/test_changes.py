"""Hands that leave or come, and plans that are mended: points 1, 12 and 13."""

import copy
import inspect
import itertools
import unittest

from piecedeal.changes import comes, leaves, mended
from piecedeal.errors import BadDeal, BadHolding, BadRound, NoDeal
from piecedeal.least import least
from piecedeal.reasons import shows
from piecedeal.rounds import lossy, played
from tests import every
from tests.wrong import DEAL, EIGHT_TIES, HOLDING, NO_HOLDINGS, NO_PLANS, NO_ROUNDS, PAIRS, RefusalCase, tied

EVERYTHING = (0, 1, 2, 3)

# Four hands with ties in no order.
KNOT = (4, 3, ((3, 1, 2), (0, 2, 1), (1, 3, 4), (2, 0, 3), (0, 3, 1), (3, 2, 1)))
KNOTTED = ((0,), (0, 1), (), (1, 2))

# Four hands in a row, and one piece that goes along it.
ROW = (4, 1, ((0, 1, 1), (1, 2, 1), (2, 3, 1)))
FIRST = ((0,), (), (), ())
ALONG = (((0, 0),), ((1, 0),), ((2, 0),))
HALF = ((0,), (0,), (), ())

# Two hands, the first of which sends the other one up to two of four pieces a round.
PAIR = (2, 4, ((0, 1, 2),))
FULL = (EVERYTHING, ())
TWICE = (((0, 0), (0, 1)), ((0, 2), (0, 3)))


class Interface(unittest.TestCase):

    def test_they_stand_in_their_file_as_the_interface_lists_them(self):
        for ask, names in (
            (leaves, ["deal", "holding", "hand"]),
            (comes, ["deal", "holding", "pieces", "ties"]),
            (mended, ["deal", "holding", "plan", "many", "lost"]),
        ):
            self.assertEqual(ask.__module__, "piecedeal.changes")
            self.assertEqual(list(inspect.signature(ask).parameters), names)


class ChangeCase(RefusalCase):

    def same(self, told, expected):
        """Just this pair is told, of tuples and whole numbers."""
        self.assertEqual(told, expected)
        self.check_kinds(told)

    def check_kinds(self, value):
        """It is a whole number, or a tuple of such and of tuples."""
        if type(value) is tuple:
            for part in value:
                self.check_kinds(part)
        else:
            self.assertIs(type(value), int)


class Leaves(ChangeCase):

    def test_the_first_hand(self):
        self.same(leaves(DEAL, HOLDING, 0), ((2, 3, ((0, 1, 1),)), ((), (1,))))
        self.same(
            leaves(KNOT, KNOTTED, 0),
            ((3, 3, ((2, 0, 2), (0, 2, 4), (2, 1, 1))), ((0, 1), (), (1, 2))),
        )

    def test_one_between(self):
        self.same(leaves(DEAL, HOLDING, 1), ((2, 3, ((1, 0, 4),)), ((0, 2), (1,))))
        self.same(
            leaves(KNOT, KNOTTED, 1),
            ((3, 3, ((0, 1, 1), (1, 0, 3), (0, 2, 1), (2, 1, 1))), ((0,), (), (1, 2))),
        )
        self.same(
            leaves(KNOT, KNOTTED, 2),
            ((3, 3, ((2, 1, 2), (1, 2, 4), (0, 2, 1))), ((0,), (0, 1), (1, 2))),
        )

    def test_the_last_hand(self):
        self.same(leaves(DEAL, HOLDING, 2), ((2, 3, ((0, 1, 2),)), ((0, 2), ())))
        self.same(
            leaves(KNOT, KNOTTED, 3),
            ((3, 3, ((0, 2, 1), (2, 0, 3))), ((0,), (0, 1), ())),
        )

    def test_one_of_two(self):
        deal = (2, 2, ((1, 0, 3), (0, 1, 2)))
        self.same(leaves(deal, ((0,), (0, 1)), 0), ((1, 2, ()), ((0, 1),)))
        self.same(leaves(deal, ((0,), (0, 1)), 1), ((1, 2, ()), ((0,),)))

    def test_no_tie(self):
        self.same(leaves((3, 1, ()), ((), (0,), ()), 1), ((2, 1, ()), ((), ())))
        self.same(leaves((3, 1, ()), ((), (0,), ()), 2), ((2, 1, ()), ((), (0,))))

    def test_a_tie_there_and_back(self):
        deal = (3, 1, ((2, 1, 4), (1, 2, 3)))
        self.same(leaves(deal, ((), (0,), ()), 0), ((2, 1, ((1, 0, 4), (0, 1, 3))), ((0,), ())))
        self.same(leaves(deal, ((), (0,), ()), 1), ((2, 1, ()), ((), ())))

    def test_a_holding_that_is_done_and_a_piece_that_no_hand_has(self):
        self.same(leaves((2, 2, ()), ((0, 1), (0, 1)), 0), ((1, 2, ()), ((0, 1),)))
        self.same(leaves((2, 2, ()), ((0,), (1,)), 1), ((1, 2, ()), ((0,),)))
        self.same(leaves((2, 2, ()), ((), ()), 1), ((1, 2, ()), ((),)))

    def test_each_hand_of_many_deals(self):
        for deal, holding in every.small():
            hands, pieces, ties = deal
            for hand in range(hands if hands > 1 else 0):
                others = [number for number in range(hands) if number != hand]
                rest = tuple(
                    (others.index(one), others.index(other), letters)
                    for one, other, letters in ties if one in others and other in others
                )
                expected = ((hands - 1, pieces, rest), tuple(holding[number] for number in others))
                with self.subTest(deal=deal, holding=holding, hand=hand):
                    self.same(leaves(deal, holding, hand), expected)

    def test_the_only_hand(self):
        for holding in (((),), ((0,),)):
            with self.refused(BadDeal):
                leaves((1, 1, ()), holding, 0)
        with self.refused(BadDeal):
            leaves((1, 4, ()), (EVERYTHING,), 0)

    def test_all_but_the_last_leave(self):
        deal, holding = KNOT, KNOTTED
        for hands in (3, 2, 1):
            deal, holding = leaves(deal, holding, 0)
            self.assertEqual((deal[0], len(holding)), (hands, hands))
        self.same((deal, holding), ((1, 3, ()), ((1, 2),)))

    def test_refuses_what_is_no_deal_first(self):
        self.check_no_deals(lambda deal, holding: leaves(deal, holding, 0))

    def test_then_what_is_no_holding(self):
        for hand in range(3):
            self.check_no_holdings(lambda holding: leaves(DEAL, holding, hand))

    def test_what_is_no_holding_ahead_of_a_deal_of_no_hands(self):
        for holding in (None, (), [()], ((1,),), ((0, 0),), ((), ())):
            with self.subTest(holding=holding), self.refused(BadHolding):
                leaves((1, 1, ()), holding, 0)

    def test_a_hand_whose_pieces_are_none(self):
        with self.refused(BadHolding):
            leaves((2, 1, ()), ((0,), (1,)), 1)


class Comes(ChangeCase):

    def test_with_no_pieces_and_no_ties(self):
        self.same(comes((1, 1, ()), ((0,),), (), ()), ((2, 1, ()), ((0,), ())))
        self.same(comes(DEAL, HOLDING, (), ()), ((4, *DEAL[1:]), (*HOLDING, ())))

    def test_with_all_pieces(self):
        self.same(comes(DEAL, HOLDING, (0, 1, 2), ()), ((4, *DEAL[1:]), (*HOLDING, (0, 1, 2))))
        self.same(comes((1, 4, ()), ((),), EVERYTHING, ()), ((2, 4, ()), ((), EVERYTHING)))

    def test_with_each_choice_of_pieces(self):
        for pieces in every.subsets(range(3)):
            self.same(comes(DEAL, HOLDING, pieces, ()), ((4, *DEAL[1:]), (*HOLDING, pieces)))

    def test_ties_to_it_from_it_and_between_the_others_behind_those_that_were_there(self):
        for told in (
            ((0, 3, 1),),
            ((3, 0, 4),),
            ((1, 0, 2),),
            ((3, 2, 1), (0, 3, 2), (2, 1, 3), (0, 2, 4)),
            ((0, 2, 4), (2, 1, 3), (0, 3, 2), (3, 2, 1)),
        ):
            with self.subTest(ties=told):
                expected = ((4, 3, DEAL[2] + told), (*HOLDING, (1,)))
                self.same(comes(DEAL, HOLDING, (1,), told), expected)

    def test_up_to_eight_ties(self):
        told = tuple((one, other, 2) for one, other in PAIRS if 3 in (one, other))
        self.same(comes((3, 1, ()), ((), (), ()), (0,), told), ((4, 1, told), ((), (), (), (0,))))
        deal = tied((0, 1, 1), (1, 0, 1))
        self.same(
            comes(deal, ((),) * 3, (), told),
            ((4, 2, (*deal[2], *told)), ((),) * 4),
        )

    def test_each_count_of_hands(self):
        deal, holding = (1, 2, ()), ((0,),)
        for hands in (2, 3, 4):
            tie = (hands - 1, 0, 1)
            deal, holding = comes(deal, holding, (1,), (tie,))
            self.assertEqual((deal[0], deal[2][-1], len(holding)), (hands, tie, hands))
        self.same((deal, holding), ((4, 2, ((1, 0, 1), (2, 0, 1), (3, 0, 1))), ((0,), (1,), (1,), (1,))))

    def test_who_came_leaves_again(self):
        for deal, holding in every.small():
            if deal[0] < 4:
                more = comes(deal, holding, (0,), ((0, deal[0], 1), (deal[0], 0, 4)))
                self.same(leaves(*more, deal[0]), (deal, holding))

    def test_what_is_no_tuple_of_its_pieces(self):
        for pieces in (
            (1, 0), (2, 1, 0), (0, 0), (0, 2, 2), (3,), (0, 3), (-1,), (-1, 0), (9,),
            [], [0], [0, 1], None, 0, "", "0", {}, {0: 0}, (None,), ("0",), (True,), (False, 1), ((0,),), ([0],),
        ):
            for told in ((), ((3, 0, 1),)):
                with self.subTest(pieces=pieces), self.refused(BadHolding):
                    comes(DEAL, HOLDING, pieces, told)

    def test_what_is_no_tuple_of_ties(self):
        for told in (
            ((3, 3, 1),), ((0, 0, 1),),
            ((0, 1, 1),), ((0, 1, 2),), ((2, 0, 4),), ((0, 3, 1), (0, 3, 1)), ((3, 0, 1), (3, 0, 2)),
            ((4, 0, 1),), ((3, 4, 1),), ((0, 9, 1),), ((-1, 3, 1),), ((3, -1, 1),),
            ((3, 0, 5),), ((3, 0, 9),), ((3, 0, 0),), ((3, 0, -1),),
            ((3, 0, None),), ((3, 0, True),), ((3, False, 1),), ((3, 0, "1"),), (("3", 0, 1),),
            ((3, 0),), ((3, 0, 1, 1),), ((),), (None,), (3,), ("301",), ([3, 0, 1],), (3, 0, 1),
            ((3, 0, 1), None), ((3, 0, 1), (3, 3, 1)),
            [], [(3, 0, 1)], None, 0, "", "301", {}, {(3, 0, 1): True},
        ):
            for pieces in ((), (0, 2), (1, 0), [0], None):
                with self.subTest(ties=told, pieces=pieces), self.refused(BadDeal):
                    comes(DEAL, HOLDING, pieces, told)

    def test_a_ninth_tie(self):
        deal = (3, 1, tuple((one, other, 1) for one, other in itertools.permutations(range(3), 2)))
        fitting = ((3, 0, 1), (0, 3, 1))
        self.assertEqual(len(comes(deal, ((),) * 3, (), fitting)[0][2]), 8)
        with self.refused(BadDeal):
            comes(deal, ((),) * 3, (), (*fitting, (3, 1, 1)))
        with self.refused(BadDeal):
            comes((3, 1, ()), ((),) * 3, (), tuple((one, other, 1) for one, other in PAIRS[:9]))

    def test_a_fifth_hand(self):
        for pieces, told in itertools.product(((), (0,), (9,), None), ((), ((4, 0, 1),), ((0, 1, 1),), None)):
            with self.subTest(pieces=pieces, ties=told), self.refused(BadDeal):
                comes((4, 1, ()), ((0,),) * 4, pieces, told)

    def test_refuses_what_is_no_deal_first(self):
        for pieces, told in (((), ()), (None, None), ((9, 9), ((0, 0, 0),))):
            self.check_no_deals(lambda deal, holding: comes(deal, holding, pieces, told))

    def test_then_what_is_no_holding_though_what_comes_can_not_be(self):
        for pieces, told in (((), ()), (None, None), ((9, 9), ((0, 0, 0),)), ((), [])):
            self.check_no_holdings(lambda holding: comes(DEAL, holding, pieces, told))
        with self.refused(BadHolding):
            comes((4, 1, EIGHT_TIES), ((),) * 3, (), ((0, 1, 1),))

    def test_a_holding_that_would_do_only_with_the_hand_that_comes(self):
        with self.refused(BadHolding):
            comes((2, 1, ()), ((),), (), ())
        with self.refused(BadHolding):
            comes((2, 1, ()), ((),) * 3, (), ())
        with self.refused(BadDeal):
            comes((2, 1, ((2, 0, 1),)), ((),) * 2, (), ())


def losses(plan):
    """All choices of none, one or two letters of a plan, or of all, that are lost."""
    sent = tuple((number, tie, piece) for number, letters in enumerate(plan) for tie, piece in letters)
    return {*itertools.combinations(sent, 0), *itertools.combinations(sent, 1), *itertools.combinations(sent, 2), sent}


def made_of(deal, holding, letters):
    """What these letters make of the holding, all of them there to be sent."""
    hands = [set(held) for held in holding]
    for tie, piece in letters:
        hands[deal[2][tie][1]].add(piece)
    return tuple(tuple(sorted(held)) for held in hands)


class MendedCase(RefusalCase):

    def left(self, deal, holding, plan, lost):
        """The rounds without the letters whose piece is not there, and the holding behind them."""
        rounds = []
        for number, letters in enumerate(plan):
            sent = tuple((tie, piece) for tie, piece in letters if piece in holding[deal[2][tie][0]])
            rounds.append(sent)
            come = [letter for letter in sent if (number, *letter) not in lost]
            holding = made_of(deal, holding, come)
        return tuple(rounds), holding

    def check(self, deal, holding, plan, many, lost):
        """What is told is as the test finds it; the rounds behind the first so many are given back."""
        with self.subTest(deal=deal, holding=holding, plan=plan, many=many, lost=lost):
            rounds, stands = self.left(deal, holding, plan[:many], lost)
            fewest = every.fewest(deal, stands)
            if fewest is None:
                return self.check_never(deal, holding, plan, many, lost, stands)
            told = mended(deal, holding, plan, many, lost)
            self.assertEqual((type(told), len(told)), (tuple, 2))
            new, reason = told
            self.check_plan(deal, new, rounds, stands, fewest)
            self.check_losses(deal, holding, new, many, lost)
            self.assertIs(type(reason), tuple)
            self.assertIs(shows(deal, stands, fewest, reason), True)
            self.assertIs(shows(deal, stands, fewest + 1, reason), False)
            self.check_cut(deal, stands, fewest, reason)
            return new[many:]

    def check_plan(self, deal, new, rounds, stands, fewest):
        """The new plan has these rounds, and behind them so many that can be played until it is done."""
        self.assertEqual([type(letters) for letters in (new, *new)], [tuple] * (1 + len(new)))
        self.assertEqual(new[:len(rounds)], rounds)
        self.assertEqual(len(new), len(rounds) + fewest)
        holdings = played(deal, stands, new[len(rounds):])
        self.assertEqual(holdings[-1], every.done(deal))
        self.assertNotIn(every.done(deal), holdings[:-1])

    def check_losses(self, deal, holding, new, many, lost):
        """It is done with the letters of the first rounds lost, with all of them where that can be."""
        earlier = tuple(letter for letter in lost if letter[0] < many)
        self.assertEqual(lossy(deal, holding, new, earlier)[-1], every.done(deal))
        if self.can_be_spared(deal, holding, new, many, lost):
            self.assertEqual(lossy(deal, holding, new, lost)[-1], every.done(deal))

    def can_be_spared(self, deal, holding, new, many, lost):
        """Whether some plan of as many rounds with the same first ones is done with all of them lost."""
        layer = {self.left(deal, holding, new[:many], lost)[1]}
        for number in range(many, len(new)):
            late = {letter[1:] for letter in lost if letter[0] == number}
            fitting = [letters for letters in every.every_round(deal) if not late & set(letters)]
            layer = {
                made_of(deal, held, letters) for held in layer for letters in fitting
                if all(piece in held[deal[2][tie][0]] for tie, piece in letters)
            }
        return every.done(deal) in layer

    def check_cut(self, deal, stands, fewest, reason):
        """The reason is a cut where some cut shows it, and none is wanted for no round."""
        if fewest == 0:
            self.assertEqual(reason, ("none",))
        elif any(every.cut_shows(deal, stands, *cut) >= fewest for cut in every.every_cut(deal)):
            self.assertEqual(reason[0], "cut")
        else:
            self.assertEqual(reason[0], "table")

    def check_never(self, deal, holding, plan, many, lost, stands):
        """It is refused, with a reason that shows that it is never done."""
        with self.refused(NoDeal) as caught:
            mended(deal, holding, plan, many, lost)
        reason = caught.exception.reason
        self.assertEqual((type(reason), reason[0]), (tuple, "never"))
        self.assertIs(shows(deal, stands, None, reason), True)
        self.assertIs(shows(deal, stands, 0, reason), False)

    def check_all(self, deal, holding, plan):
        """For each number of rounds, and with none, some and all letters of the plan lost."""
        for many, lost in itertools.product(range(len(plan) + 1), sorted(losses(plan))):
            self.check(deal, holding, plan, many, lost)


class Mended(MendedCase):

    def test_a_plan_of_no_rounds(self):
        self.assertEqual(mended((1, 1, ()), ((0,),), (), 0, ()), ((), ("none",)))
        self.assertEqual(mended(PAIR, (EVERYTHING,) * 2, (), 0, ()), ((), ("none",)))
        self.check(PAIR, FULL, (), 0, ())
        self.check(ROW, FIRST, (), 0, ((0, 0, 0),))
        self.check((1, 1, ()), ((),), (), 0, ())

    def test_no_letter_lost(self):
        for many in range(4):
            self.check(ROW, FIRST, ALONG, many, ())
        self.assertEqual(mended(ROW, FIRST, ALONG, 3, ()), (ALONG, ("none",)))
        self.assertEqual(mended(ROW, FIRST, ALONG, 0, ())[0], ALONG)
        self.assertEqual(mended(PAIR, FULL, TWICE, 2, ()), (TWICE, ("none",)))

    def test_a_lost_letter_stands_as_it_was_sent(self):
        self.assertEqual(mended(ROW, FIRST, ALONG[:1], 1, ((0, 0, 0),))[0], (ALONG[0], *ALONG))
        new, reason = mended(PAIR, FULL, TWICE, 2, ((1, 0, 2),))
        self.assertEqual(new, (*TWICE, ((0, 2),)))
        self.assertIs(shows(PAIR, (EVERYTHING, (0, 1, 3)), 1, reason), True)

    def test_letters_without_a_piece_are_left_out_and_their_rounds_stay(self):
        self.assertEqual(mended(ROW, FIRST, ALONG, 3, ((0, 0, 0),))[0], (ALONG[0], (), (), *ALONG))
        self.assertEqual(mended(ROW, FIRST, ALONG, 2, ((0, 0, 0),))[0], (ALONG[0], (), *ALONG))
        self.assertEqual(mended(ROW, FIRST, ALONG, 3, ((1, 1, 0),))[0], (*ALONG[:2], (), *ALONG[1:]))
        self.check_all(ROW, FIRST, ALONG)

    def test_letters_that_no_hand_could_have_sent_though_none_was_lost(self):
        plan = (((0, 0), (1, 0)), ((1, 0), (2, 0)))
        self.assertEqual(mended(ROW, FIRST, plan, 2, ())[0], (ALONG[0], ALONG[1], ALONG[2]))
        self.check_all(ROW, FIRST, plan)

    def test_a_piece_that_comes_later_is_sent_from_then_on(self):
        plan = (((0, 0),), ((0, 0), (1, 0)), ((1, 0), (2, 0)))
        new, _ = mended(ROW, FIRST, plan, 3, ((0, 0, 0),))
        self.assertEqual(new, (((0, 0),), ((0, 0),), ((1, 0),), ((2, 0),)))
        self.check_all(ROW, FIRST, plan)

    def test_letters_of_pieces_that_the_hand_already_has_stay(self):
        plan = (((0, 0),), ((0, 0),), ((0, 0),))
        self.assertEqual(mended(ROW, FIRST, plan, 3, ())[0], (*plan, *ALONG[1:]))

    def test_rounds_behind_the_first_so_many_are_dropped(self):
        plan = (*ALONG, ALONG[0], ALONG[1])
        self.assertEqual(mended(ROW, FIRST, plan, 1, ())[0], ALONG)
        self.assertEqual(mended(ROW, HALF, plan, 0, ())[0], ALONG[1:])
        self.assertEqual(mended(ROW, FIRST, plan, 5, ())[0], plan)

    def test_a_holding_that_is_done_already(self):
        deal, holding = (2, 1, ((0, 1, 1),)), ((0,), (0,))
        plan = (((0, 0),), (), ((0, 0),))
        for many in range(4):
            self.assertEqual(mended(deal, holding, plan, many, ((0, 0, 0),)), (plan[:many], ("none",)))

    def test_lost_ones_that_nobody_sent(self):
        strange = ((0, 1, 0), (9, 0, 0), (-1, 0, 0), (0, 9, 0), (0, -1, 0), (0, 0, 9), (0, 0, -1), (1, 0, 0))
        for many in range(4):
            for lost in (*itertools.combinations(strange, 1), strange, strange[::-1]):
                self.check(ROW, FIRST, ALONG, many, lost)
                if many > 1:
                    self.assertEqual(
                        mended(ROW, FIRST, ALONG, many, lost), mended(ROW, FIRST, ALONG, many, ())
                    )

    def test_lost_ones_in_any_order_and_twice(self):
        lost = ((0, 0, 0), (1, 0, 3), (0, 0, 1))
        expected = mended(PAIR, FULL, TWICE, 2, lost)
        self.assertEqual(expected[0][:2], TWICE)
        self.assertEqual(len(expected[0]), 4)
        for order in itertools.permutations((*lost, lost[0])):
            self.assertEqual(mended(PAIR, FULL, TWICE, 2, order), expected)

    def test_one_hand_and_no_tie(self):
        self.assertEqual(mended((1, 2, ()), ((0, 1),), ((), ()), 1, ()), (((),), ("none",)))
        self.check_all((1, 1, ()), ((),), ((),))
        self.check_all((2, 1, ()), ((0,), ()), ((), ()))

    def test_a_piece_that_no_hand_has(self):
        self.check_all((2, 2, ((0, 1, 1), (1, 0, 1))), ((0,), ()), (((0, 0),), ((1, 0),)))

    def test_it_can_be_never_done_by_what_stands_only(self):
        deal = (3, 1, ((0, 1, 1), (1, 2, 1)))
        self.check_all(deal, ((0,), (), ()), (((0, 0),), ((1, 0),)))
        self.check_all(deal, ((), (0,), ()), (((1, 0),),))

    def test_four_pieces(self):
        self.check_all(PAIR, FULL, TWICE)
        deal, holding = (4, 4, EIGHT_TIES), (EVERYTHING, (), (), ())
        plan = (((0, 0), (1, 1), (2, 2)), ((4, 0), (7, 1)))
        for many, lost in ((2, ()), (2, ((0, 0, 0),)), (1, ((0, 2, 2), (0, 1, 1)))):
            rounds, stands = self.left(deal, holding, plan[:many], lost)
            new, reason = mended(deal, holding, plan, many, lost)
            self.check_plan(deal, new, rounds, stands, least(deal, stands)[0])
            self.assertIs(shows(deal, stands, len(new) - many, reason), True)

    def test_beside_the_fewest_that_the_test_finds(self):
        for step, (deal, holding) in enumerate(every.small()[::7]):
            fitting = every.every_round(deal)
            plan = tuple(fitting[(step * stride + stride) % len(fitting)] for stride in (5, 11, 3))
            self.check(deal, holding, plan, step % 4, sorted(losses(plan))[step % len(losses(plan))])

    def test_the_fewest_rounds_with_letters_lost(self):
        for deal, holding in (*every.WIDE, *((deal, holding) for _, deal, holding in every.UNCUT)):
            if every.fewest(deal, holding) is not None and deal[1] < 4:
                plan = least(deal, holding)[1]
                for many in range(len(plan) + 1):
                    for lost in sorted(losses(plan[:many]))[::3]:
                        self.check(deal, holding, plan, many, lost)

    def test_a_table_where_no_cut_shows_it(self):
        for many, deal, holding in every.UNCUT:
            plan = ((), *least(deal, holding)[1])
            lost = tuple((1, *letter) for letter in plan[1])
            self.check(deal, holding, plan, 1, ())
            self.check(deal, holding, plan, 2, lost)
            self.assertEqual(mended(deal, holding, plan, 2, lost)[1][0], "table")


class LaterLosses(MendedCase):
    """Letters that are told as lost in rounds behind the first so many."""

    # The piece goes by either of two hands to the last one, and to both of them.
    WAYS = (4, 1, ((0, 1, 1), (0, 2, 1), (1, 3, 1), (2, 3, 1)))

    def test_the_new_rounds_do_without_them_where_they_can(self):
        holding = ((0,), (0,), (0,), ())
        for tie, other in ((2, 3), (3, 2)):
            rounds = self.check(self.WAYS, holding, (((0, 0),),), 1, ((1, tie, 0),))
            self.assertIn((other, 0), rounds[0])
            self.assertEqual(len(rounds), 1)

    def test_another_choice_ahead_of_them(self):
        deal, holding = (3, 2, ((0, 1, 1), (1, 2, 2), (0, 2, 1))), ((0, 1), (), ())
        for piece, many in itertools.product((0, 1), (0, 1)):
            self.check(deal, holding, ((),), many, ((many + 1, 0, piece),))
            self.check(deal, holding, ((),), many, ((many, 0, piece), (many + 1, 0, 1 - piece)))

    def test_as_many_rounds_where_none_can_do_without_them(self):
        self.assertEqual(mended(ROW, FIRST, ALONG, 0, ((0, 0, 0),))[0], ALONG)
        self.assertEqual(mended(ROW, FIRST, ALONG, 1, ((1, 1, 0),))[0], ALONG)
        self.check_all(ROW, FIRST, ALONG)

    def test_each_letter_lost_in_each_round(self):
        self.check_each(*every.UNCUT[0][1:])
        self.check_each(self.WAYS, ((0,), (), (), ()))
        self.check_each((3, 2, ((0, 1, 1), (0, 2, 1), (1, 2, 1), (2, 1, 1))), ((0, 1), (), ()))

    def check_each(self, deal, holding):
        """Whichever two letters are told as lost."""
        places = list(itertools.product(range(3), range(len(deal[2])), range(deal[1])))
        for lost in itertools.combinations(places, 2):
            for many in (0, 1):
                self.check(deal, holding, ((),), many, lost)


class MendedRefused(RefusalCase):

    def test_what_is_no_deal_first(self):
        for plan in ((), None, (((0, 0), (0, 0)),)):
            self.check_no_deals(lambda deal, holding: mended(deal, holding, plan, 0, ()))

    def test_then_what_is_no_holding(self):
        for plan in ((), None, (None,), (((0, 0), (0, 0)),)):
            self.check_no_holdings(lambda holding: mended(DEAL, holding, plan, 0, ()))
            self.check_no_holdings(lambda holding: mended((3, 3, ()), holding, plan, 0, ()))

    def refuse(self, deal, holding, plan, number, why):
        """The plan is refused with this number and word, however many rounds and lost letters are told."""
        length = len(plan) if isinstance(plan, tuple) else 0
        for many, lost in itertools.product(range(length + 1), ((), ((0, 0, 0), (1, 1, 1)))):
            with self.subTest(plan=plan, many=many, lost=lost):
                with self.refused(BadRound, number=number, why=why):
                    mended(deal, holding, plan, many, lost)

    def test_a_plan_that_is_no_tuple(self):
        for plan in NO_PLANS:
            self.refuse(DEAL, HOLDING, plan, 0, "form")

    def test_a_round_of_another_form_behind_the_first_so_many_too(self):
        for letters in NO_ROUNDS:
            self.refuse(DEAL, HOLDING, (letters,), 0, "form")
            self.refuse(DEAL, HOLDING, ((), ((0, 0),), letters, ()), 2, "form")

    def test_more_letters_than_a_tie_bears_behind_the_first_so_many_too(self):
        full = ((0, 0), (0, 1), (0, 2))
        self.refuse(PAIR, FULL, (full,), 0, "many")
        self.refuse(PAIR, FULL, ((), ((0, 0),), full, ()), 2, "many")
        self.refuse(PAIR, ((), ()), ((), full), 1, "many")

    def test_ahead_of_what_is_never_done(self):
        self.refuse((2, 1, ((0, 1, 1),)), ((), ()), ((), None), 1, "form")
        self.refuse((2, 1, ()), ((0,), ()), None, 0, "form")
        self.refuse((2, 2, ((0, 1, 1),)), ((), ()), (((0, 0), (0, 1)),), 0, "many")

    def test_a_piece_that_is_not_there_is_not_refused(self):
        self.assertEqual(mended(ROW, FIRST, (((2, 0),),), 1, ())[0], ((), *ALONG))

    def test_what_is_never_done(self):
        for deal, holding, reason in (
            ((1, 1, ()), ((),), ("never", 0, ())),
            ((2, 1, ()), ((0,), ()), ("never", 0, (0,))),
            ((3, 1, ((0, 1, 1), (2, 0, 1))), ((0,), (), ()), ("never", 0, (0, 1))),
        ):
            for plan, many in (((), 0), (((), ()), 0), (((), ()), 2)):
                with self.refused(NoDeal) as caught:
                    mended(deal, holding, plan, many, ())
                self.assertIs(shows(deal, holding, None, reason), True)
                self.assertIs(shows(deal, holding, None, caught.exception.reason), True)

    def test_what_is_asked_behind_a_refusal_is_answered_as_ahead_of_it(self):
        for _ in range(3):
            with self.refused(NoDeal):
                mended((2, 1, ()), ((0,), ()), (), 0, ())
            with self.refused(BadRound, number=0, why="form"):
                mended(ROW, FIRST, None, 0, ())
            with self.refused(BadHolding):
                mended(ROW, NO_HOLDINGS[0], ALONG, 0, ())
            self.assertEqual(mended(ROW, FIRST, ALONG, 3, ()), (ALONG, ("none",)))


class Asked(unittest.TestCase):

    def test_what_is_handed_in_is_as_it_was_and_the_answer_the_same(self):
        for ask, handed in (
            (leaves, (KNOT, KNOTTED, 2)),
            (comes, (DEAL, HOLDING, (0, 1), ((3, 0, 1), (1, 3, 2)))),
            (mended, (ROW, FIRST, ALONG, 2, ((1, 1, 0),))),
            (mended, (PAIR, FULL, TWICE, 2, ((0, 0, 0), (1, 0, 3)))),
        ):
            before = copy.deepcopy(handed)
            told = [ask(*handed) for _ in range(3)]
            self.assertEqual(told, told[:1] * 3)
            self.assertEqual(handed, before)
