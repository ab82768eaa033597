"""Which reasons show that fewer rounds don't do, or that it is never done: points 1, 8, 9 and 10."""

import copy
import inspect
import itertools
import math
import unittest

from piecedeal.errors import BadDeal
from piecedeal.reasons import shows
from tests import every
from tests.wrong import DEAL, NO_HOLDINGS, RefusalCase

# Four hands in a row, of which the first one has two pieces; it takes four rounds.
ROW = (4, 2, ((0, 1, 1), (1, 2, 1), (2, 3, 1)))
BEGIN = ((0, 1), (), (), ())
ROW_CUT = ("cut", (3,), (0, 1), 2)

# No cut shows that two rounds are the fewest of this one.
LOOP = (3, 2, ((0, 1, 1), (0, 2, 2), (1, 0, 2), (1, 2, 1)))
MIDDLE = ((), (0, 1), ())
MADE = (((0, 1), (0, 1), (0,)), ((0, 1), (0, 1), (1,)))
LOOP_TABLE = ("table", ((MIDDLE,), MADE))

# Of four hands one sends no piece and another one gets none.
APART = (4, 2, ((0, 1, 1), (1, 0, 2), (1, 2, 1), (3, 0, 1)))
SOME = ((0,), (), (0,), (1,))

# A text that stands in no reason, and such as nearly do.
OTHER_WORDS = ("", " ", "no", "None", "NONE", "none ", "cuts", "tables", "nevers", "mut", "reason")

# What stands in the place of a number, a tuple of numbers or a tuple of layers, and is none.
NO_NUMBERS = (None, True, False, "", "0", (), (0,), [0])
NO_CHOICES = (None, True, 0, "", "0", [], [0], {0: 0}, ((0,),), ("0",), (None,), ([0],), (False,), (True,))


class ShowsCase(RefusalCase):
    """A test case that asks again and again whether reasons show something."""

    def shown(self, deal, holding, many, reason):
        """It is shown."""
        with self.subTest(deal=deal, holding=holding, many=many, reason=reason):
            self.assertIs(shows(deal, holding, many, reason), True)

    def not_shown(self, deal, holding, many, reason):
        """It isn't shown."""
        with self.subTest(deal=deal, holding=holding, many=many, reason=reason):
            self.assertIs(shows(deal, holding, many, reason), False)

    def shown_up_to(self, deal, holding, most, reason):
        """It is shown for just so many rounds and fewer."""
        for many in range(most + 1):
            self.shown(deal, holding, many, reason)
        for many in (most + 1, most + 2, most + 9, most + 10 ** 9):
            self.not_shown(deal, holding, many, reason)
        self.not_shown(deal, holding, None, reason)

    def never_shown(self, deal, holding, reason):
        """It is shown for no number of rounds, and not that it is never done."""
        for many in (0, 1, 2, 3, 4, 5, 10 ** 9, None):
            self.not_shown(deal, holding, many, reason)


class Interface(unittest.TestCase):

    def test_it_stands_in_its_file_as_the_interface_lists_it(self):
        self.assertEqual(shows.__module__, "piecedeal.reasons")
        self.assertEqual(
            list(inspect.signature(shows).parameters), ["deal", "holding", "many", "reason"]
        )


class OtherForms(ShowsCase):

    def test_words_that_there_are_not(self):
        for word in OTHER_WORDS:
            self.never_shown(ROW, BEGIN, (word,))
            self.never_shown(ROW, BEGIN, (word, *ROW_CUT[1:]))
            self.never_shown(LOOP, MIDDLE, (word, *LOOP_TABLE[1:]))
            self.never_shown(APART, SOME, (word, 0, (0, 1, 2)))

    def test_words_of_other_reasons(self):
        for word, other in itertools.product(("none", "cut", "table"), repeat=2):
            for reason in (("none",), ROW_CUT, LOOP_TABLE):
                if reason[0] == word and word != other:
                    self.never_shown(ROW, BEGIN, (other, *reason[1:]))
                    self.never_shown(LOOP, MIDDLE, (other, *reason[1:]))

    def test_too_few_or_too_many_things(self):
        for deal, holding, reason in (
            (ROW, BEGIN, ("none",)),
            (ROW, BEGIN, ROW_CUT),
            (LOOP, MIDDLE, LOOP_TABLE),
            (APART, SOME, ("never", 0, (0, 1, 2))),
        ):
            for count in range(1, len(reason)):
                self.never_shown(deal, holding, reason[:count])
            for more in (None, 0, (), "", (0,), reason[-1]):
                self.never_shown(deal, holding, (*reason, more))

    def test_words_alone_with_empty_texts(self):
        for word in ("", "cut", "table", "never"):
            self.never_shown(ROW, BEGIN, (word,))
            for count in (1, 2, 3):
                self.never_shown(ROW, BEGIN, (word, *[""] * count))
                self.never_shown(ROW, BEGIN, (word, *[()] * count))

    def test_what_is_no_tuple(self):
        for reason in ((), [], ["none"], list(ROW_CUT), "none", "", None):
            self.never_shown(ROW, BEGIN, reason)

    def test_another_kind_of_thing_in_each_place(self):
        for thing in (None, True, 0, "", "01", [0], [], {}, (None,), ("",)):
            for place in range(1, 4):
                if (place, thing) != (3, 0):
                    self.never_shown(ROW, BEGIN, (*ROW_CUT[:place], thing, *ROW_CUT[place + 1:]))
            self.never_shown(LOOP, MIDDLE, ("table", thing))
            self.never_shown(APART, SOME, ("never", 0, thing))
            if thing != 0:
                self.never_shown(APART, SOME, ("never", thing, (0, 1, 2)))


class Nothing(ShowsCase):
    """The reason "none"."""

    def test_for_no_rounds(self):
        for deal, holding in every.small():
            self.assertIs(shows(deal, holding, 0, ("none",)), True)

    def test_for_no_other_number(self):
        for deal, holding in ((ROW, BEGIN), (ROW, ((0, 1),) * 4), ((1, 1, ()), ((0,),)), (APART, SOME)):
            self.shown_up_to(deal, holding, 0, ("none",))


class Cuts(ShowsCase):

    def test_one_hand_and_one_piece(self):
        self.shown_up_to(ROW, BEGIN, 1, ("cut", (1,), (0,), 0))
        self.shown_up_to(ROW, BEGIN, 1, ("cut", (2,), (1,), 0))
        self.shown_up_to(ROW, BEGIN, 1, ("cut", (3,), (0,), 0))

    def test_as_many_rounds_as_the_letters_want_for_all_pieces(self):
        for letters, pieces in itertools.product((1, 2, 3, 4), repeat=2):
            deal = (2, 4, ((1, 0, 4), (0, 1, letters)))
            holding = ((0, 1, 2, 3), ())
            most = math.ceil(pieces / letters)
            self.shown_up_to(deal, holding, most, ("cut", (1,), tuple(range(pieces)), 0))

    def test_pieces_that_some_of_the_hands_have_can_be_left_out(self):
        self.shown_up_to(ROW, ((0, 1), (1,), (), ()), 1, ("cut", (1,), (0,), 0))
        self.shown_up_to(ROW, ((0, 1), (1,), (), ()), 2, ("cut", (2,), (0, 1), 0))

    def test_rounds_ahead(self):
        self.shown_up_to(ROW, BEGIN, 4, ROW_CUT)
        self.shown_up_to(ROW, BEGIN, 3, ("cut", (3,), (0, 1), 1))
        self.shown_up_to(ROW, BEGIN, 2, ("cut", (3,), (0, 1), 0))
        self.shown_up_to(ROW, BEGIN, 3, ("cut", (2,), (0, 1), 1))
        self.shown_up_to(ROW, BEGIN, 3, ("cut", (2, 3), (0, 1), 1))

    def test_one_ahead_too_many(self):
        for ahead in (3, 4, 5, 10 ** 9):
            self.never_shown(ROW, BEGIN, ("cut", (3,), (0, 1), ahead))
        self.never_shown(ROW, BEGIN, ("cut", (2,), (0, 1), 2))
        self.never_shown(ROW, BEGIN, ("cut", (1,), (0, 1), 1))

    def test_the_nearest_hand_and_the_nearest_piece_count(self):
        self.never_shown(ROW, BEGIN, ("cut", (1, 3), (0, 1), 1))
        self.never_shown(ROW, BEGIN, ("cut", (2, 3), (0, 1), 2))
        holding = ((0,), (1,), (), ())
        self.shown_up_to(ROW, holding, 3, ("cut", (3,), (0,), 2))
        self.never_shown(ROW, holding, ("cut", (3,), (0, 1), 2))
        self.shown_up_to(ROW, holding, 3, ("cut", (3,), (0, 1), 1))
        self.never_shown(ROW, ((0, 1), (0,), (), ()), ("cut", (3,), (0,), 2))

    def test_ties_lead_one_way_only(self):
        deal = (3, 1, ((1, 0, 1), (2, 1, 1), (0, 2, 1)))
        self.shown_up_to(deal, ((0,), (), ()), 2, ("cut", (1,), (0,), 1))
        self.never_shown(deal, ((0,), (), ()), ("cut", (2,), (0,), 1))

    def test_ahead_below_none(self):
        for ahead in (-1, -2, -10 ** 9):
            self.never_shown(ROW, BEGIN, ("cut", (3,), (0, 1), ahead))
            self.never_shown((2, 1, ()), ((), ()), ("cut", (1,), (0,), ahead))

    def test_what_is_no_number_ahead(self):
        for ahead in NO_NUMBERS:
            self.never_shown(ROW, BEGIN, ("cut", (3,), (0, 1), ahead))
            self.never_shown((2, 1, ()), ((), ()), ("cut", (1,), (0,), ahead))

    def test_letters_of_all_ties_from_other_hands_together(self):
        deal = (3, 4, ((0, 2, 1), (1, 2, 2), (2, 0, 4), (2, 1, 4), (0, 1, 3)))
        holding = ((0, 1, 2, 3), (0,), ())
        self.shown_up_to(deal, holding, 2, ("cut", (2,), (0, 1, 2, 3), 0))
        self.shown_up_to(deal, holding, 1, ("cut", (2,), (0, 1, 2), 0))
        self.shown_up_to(deal, holding, 1, ("cut", (1,), (1, 2, 3), 0))

    def test_letters_among_the_hands_do_not_count(self):
        deal = (3, 2, ((0, 1, 1), (1, 2, 4), (2, 1, 4)))
        self.shown_up_to(deal, ((0, 1), (), ()), 2, ("cut", (1, 2), (0, 1), 0))
        self.shown_up_to(deal, ((0, 1), (), ()), 2, ("cut", (2,), (0, 1), 1))
        self.shown_up_to(deal, ((0, 1), (), ()), 1, ("cut", (1,), (0, 1), 0))

    def test_letters_that_lead_out_do_not_count(self):
        deal = (2, 2, ((0, 1, 1), (1, 0, 4)))
        self.shown_up_to(deal, ((0, 1), ()), 2, ("cut", (1,), (0, 1), 0))

    def test_letters_of_hands_without_the_pieces_count_too(self):
        deal = (3, 2, ((0, 1, 1), (2, 1, 1)))
        self.shown_up_to(deal, ((0, 1), (), ()), 1, ("cut", (1,), (0, 1), 0))

    def test_hands_to_which_no_tie_leads(self):
        for many in (0, 1, 2, 9, 10 ** 9):
            self.shown((2, 1, ()), ((0,), ()), many, ("cut", (1,), (0,), 0))
            self.shown((3, 1, ((1, 2, 1), (2, 1, 1))), ((0,), (), ()), many, ("cut", (1, 2), (0,), 0))
            self.shown((1, 2, ()), ((1,),), many, ("cut", (0,), (0,), 5))
        self.not_shown((2, 1, ()), ((0,), ()), None, ("cut", (1,), (0,), 0))
        self.never_shown((2, 1, ()), ((0,), ()), ("cut", (0, 1), (0,), 0))
        self.never_shown((2, 1, ()), ((0,), ()), ("cut", (1,), (1,), 0))

    def test_a_piece_that_no_hand_has_or_that_no_tie_brings_is_any_number_ahead(self):
        deal = (2, 2, ((0, 1, 1), (1, 0, 1)))
        for ahead in (0, 1, 2, 3, 99, 10 ** 9):
            self.shown(deal, ((1,), ()), ahead + 1, ("cut", (1,), (0,), ahead))
            self.not_shown(deal, ((1,), ()), ahead + 2, ("cut", (1,), (0,), ahead))
            self.shown(APART, SOME, ahead + 1, ("cut", (3,), (0,), ahead))
            self.shown((3, 1, ((1, 2, 1),)), ((0,), (), ()), ahead + 1, ("cut", (2,), (0,), ahead))
            self.not_shown((3, 1, ((1, 2, 1),)), ((0,), (), ()), ahead + 2, ("cut", (2,), (0,), ahead))

    def test_a_hand_that_has_one_of_the_pieces(self):
        self.never_shown(ROW, BEGIN, ("cut", (0,), (0,), 0))
        self.never_shown(ROW, BEGIN, ("cut", (0, 3), (0,), 0))
        self.never_shown(ROW, ((0, 1), (), (), (1,)), ("cut", (3,), (0, 1), 0))
        self.never_shown(ROW, ((0, 1), (), (1,), ()), ("cut", (2, 3), (0, 1), 0))
        self.never_shown((1, 1, ()), ((0,),), ("cut", (0,), (0,), 0))

    def test_a_holding_that_is_done(self):
        for hands, pieces, ahead in every.every_cut(ROW):
            self.never_shown(ROW, ((0, 1),) * 4, ("cut", hands, pieces, ahead))

    def test_hands_that_fall_or_are_there_twice_or_are_not_there(self):
        for hands in ((3, 2), (3, 3), (2, 3, 3), (2, 3, 2), (4,), (3, 4), (-1,), (-1, 3), (99,)):
            self.never_shown(ROW, BEGIN, ("cut", hands, (0, 1), 0))

    def test_pieces_that_fall_or_are_there_twice_or_are_not_there(self):
        for pieces in ((1, 0), (0, 0), (1, 1), (0, 1, 1), (2,), (0, 2), (0, 1, 2), (-1,), (-1, 0), (99,)):
            self.never_shown(ROW, BEGIN, ("cut", (3,), pieces, 0))

    def test_no_hands_and_no_pieces(self):
        for deal, holding in ((ROW, BEGIN), ((1, 1, ()), ((),)), (APART, SOME)):
            self.never_shown(deal, holding, ("cut", (), (0,), 0))
            self.never_shown(deal, holding, ("cut", (0,), (), 0))
            self.never_shown(deal, holding, ("cut", (), (), 0))

    def test_hands_and_pieces_that_are_no_tuples_of_numbers(self):
        for choice in NO_CHOICES:
            self.never_shown((2, 2, ()), ((), ()), ("cut", choice, (0,), 0))
            self.never_shown((2, 2, ()), ((), ()), ("cut", (0,), choice, 0))

    def test_all_cuts_beside_what_the_test_reckons(self):
        for deal, holding in every.small()[::7]:
            for hands, pieces, ahead in every.every_cut(deal):
                most = every.cut_shows(deal, holding, hands, pieces, ahead)
                for many in range(6):
                    told = shows(deal, holding, many, ("cut", hands, pieces, ahead))
                    self.assertIs(told, many <= most, (deal, holding, many, hands, pieces, ahead))
                self.assertIs(shows(deal, holding, None, ("cut", hands, pieces, ahead)), False)


class Tables(ShowsCase):

    def shown_for(self, deal, holding, table):
        """It is shown for just as many rounds as there are layers."""
        for many in (*range(len(table) + 3), 10 ** 9, None):
            if many == len(table):
                self.shown(deal, holding, many, ("table", table))
            else:
                self.not_shown(deal, holding, many, ("table", table))

    def spoiled(self, table):
        """LOOP's table, spoiled, shows nothing."""
        self.never_shown(LOOP, MIDDLE, ("table", table))

    def test_one_layer(self):
        self.shown_for(LOOP, MIDDLE, ((MIDDLE,),))
        self.shown_for((1, 1, ()), ((),), ((((),),),))

    def test_two_layers(self):
        self.shown_for(LOOP, MIDDLE, LOOP_TABLE[1])
        self.shown_for(LOOP, MIDDLE, ((MIDDLE,), MADE[::-1]))
        self.shown_for(LOOP, MIDDLE, ((MIDDLE, MIDDLE), MADE * 2))

    def test_more_layers_than_the_fewest_rounds_where_it_is_never_done(self):
        for many in range(1, 6):
            self.shown_for((2, 1, ()), ((0,), ()), ((((0,), ()),),) * many)
            self.shown_for((1, 2, ()), ((1,),), ((((1,),),),) * many)

    def test_a_holding_that_has_more_stands_for_one_that_has_less(self):
        self.shown_for(ROW, BEGIN, ((((0, 1), (0, 1), (), ()),),))
        more = ((0, 1), (0, 1), (0, 1), ())
        most = ((0, 1), (0, 1), (0, 1), (0,)), ((0, 1), (0, 1), (0, 1), (1,))
        self.shown_for(ROW, BEGIN, ((((0, 1), (0, 1), (), ()),), (more,), most))
        self.shown_for(ROW, BEGIN, ((((0, 1), (0, 1), (0, 1), ()), ((0,), (), (), ())), (*most, more)))

    def test_a_first_layer_that_has_less(self):
        self.never_shown(ROW, BEGIN, ("table", ((((0,), (), (), ()),),)))
        self.never_shown(ROW, BEGIN, ("table", ((((0,), (1,), (0, 1), ()), ((1,), (), (), ())),)))

    def test_one_holding_is_to_have_it_all(self):
        layer = (((0, 1), (), (), ()), ((0,), (0,), (), ()))
        self.never_shown(ROW, ((0, 1), (0,), (), ()), ("table", (layer,)))
        self.spoiled(((MIDDLE,), (((0, 1), (0, 1), ()), ((0, 1), (), (0, 1)), ((), (0, 1), (0, 1)))))

    def test_a_layer_too_few_or_too_many(self):
        self.shown(LOOP, MIDDLE, 2, LOOP_TABLE)
        self.not_shown(LOOP, MIDDLE, 1, LOOP_TABLE)
        self.not_shown(LOOP, MIDDLE, 3, LOOP_TABLE)
        self.not_shown(LOOP, MIDDLE, 2, ("table", LOOP_TABLE[1][:1]))
        self.not_shown(LOOP, MIDDLE, 2, ("table", LOOP_TABLE[1][1:]))
        self.not_shown(LOOP, MIDDLE, 2, ("table", (*LOOP_TABLE[1], MADE)))
        self.not_shown(LOOP, MIDDLE, 2, ("table", ((MIDDLE,), *LOOP_TABLE[1])))

    def test_no_layers(self):
        for deal, holding in ((LOOP, MIDDLE), (ROW, ((0, 1),) * 4), ((1, 1, ()), ((),))):
            self.never_shown(deal, holding, ("table", ()))

    def test_layers_that_are_empty(self):
        self.spoiled(((),))
        self.spoiled(((MIDDLE,), ()))
        self.spoiled(((), MADE))
        self.spoiled(((), ()))
        self.spoiled(((MIDDLE,), (), ()))

    def test_layers_that_are_no_tuples(self):
        for layer in (None, True, 0, "", "table", [], [MIDDLE], list(MADE), {}, {MIDDLE: 0}):
            self.spoiled((layer,))
            self.spoiled((layer, MADE))
            self.spoiled(((MIDDLE,), layer))
        self.spoiled([(MIDDLE,), MADE])
        self.spoiled([])
        self.spoiled({(MIDDLE,): 0, MADE: 1})
        self.spoiled((MIDDLE, MADE))
        self.spoiled((MIDDLE,))
        self.spoiled(MIDDLE)

    def test_a_holding_that_is_done(self):
        done = every.done(LOOP)
        self.spoiled(((done,),))
        self.spoiled(((MIDDLE, done),))
        self.spoiled(((MIDDLE,), (done,)))
        self.spoiled(((MIDDLE,), (*MADE, done)))
        self.spoiled(((MIDDLE,), (done, *MADE)))
        self.spoiled(((done, MIDDLE), MADE))
        self.never_shown((1, 1, ()), ((0,),), ("table", ((((0,),),),)))

    def test_what_is_no_holding(self):
        holding = ((0, 1), (2,), ())
        for thing in NO_HOLDINGS:
            self.never_shown(DEAL, holding, ("table", ((thing,),)))
            self.never_shown(DEAL, holding, ("table", ((holding, thing),)))
            self.never_shown(DEAL, holding, ("table", ((thing, holding),)))
        for thing in (None, (), ((), (0, 1)), ((0, 1), (0, 1), (2,)), [(), (0, 1), ()], ((), (1, 0), ())):
            self.spoiled(((MIDDLE, thing), MADE))
            self.spoiled(((MIDDLE,), (*MADE, thing)))

    def test_something_that_a_round_makes_is_left_out(self):
        self.spoiled(((MIDDLE,), MADE[:1]))
        self.spoiled(((MIDDLE,), MADE[1:]))
        self.spoiled(((MIDDLE,), (MIDDLE,)))

    def test_what_each_round_makes_of_each_holding_of_a_layer_counts(self):
        there = ((), (0, 1), ())
        more = ((0, 1), (0, 1), ())
        self.shown(LOOP, there, 2, ("table", ((there,), MADE)))
        self.shown(LOOP, there, 1, ("table", ((there, more),)))
        self.spoiled(((there, more), MADE))
        self.spoiled(((more, there), MADE))
        first, second, third = ((0,), ()), ((0,), ()), ((), (0,))
        self.shown((2, 1, ()), first, 2, ("table", ((first,), (second,))))
        self.shown((2, 1, ()), first, 2, ("table", ((first, third), (second, third))))
        self.never_shown((2, 1, ()), first, ("table", ((first, third), (second,))))
        self.never_shown((2, 1, ()), first, ("table", ((first,), (third,))))

    def test_each_layer_but_the_last_leads_to_the_next_one(self):
        table = every.layers(ROW, BEGIN, 4)
        self.shown_for(ROW, BEGIN, table)
        for number in (1, 2, 3):
            for place in range(len(table[number])):
                layer = (*table[number][:place], *table[number][place + 1:])
                spoiled = (*table[:number], layer, *table[number + 1:])
                covered = any(every.within(table[number][place], held) for held in layer)
                self.assertIs(shows(ROW, BEGIN, 4, ("table", spoiled)), covered)

    def test_tables_beside_what_the_test_reckons(self):
        for deal, holding in every.small()[::11]:
            most = every.fewest(deal, holding)
            for many in range(1, 4 if most is None else most + 2):
                table = every.layers(deal, holding, many)
                self.assertIs(
                    shows(deal, holding, many, ("table", table)), most is None or many <= most
                )

    def test_tables_with_one_holding_left_out_beside_what_the_test_reckons(self):
        told = []
        for many, deal, holding in every.UNCUT:
            table = every.layers(deal, holding, many)
            self.assertIs(shows(deal, holding, many, ("table", table)), True)
            for number in range(1, many):
                for place in range(len(table[number])):
                    layer = (*table[number][:place], *table[number][place + 1:])
                    spoiled = (*table[:number], layer, *table[number + 1:])
                    expected = every.table_shows(deal, holding, spoiled)
                    self.assertIs(shows(deal, holding, many, ("table", spoiled)), expected)
                    told.append(expected)
        self.assertEqual(set(told), {True, False})


class Never(ShowsCase):

    def shown_never(self, deal, holding, piece, hands):
        """It is shown that it is never done, and of no number that fewer rounds don't do."""
        self.shown(deal, holding, None, ("never", piece, hands))
        for many in (0, 1, 2, 3, 9, 10 ** 9):
            self.not_shown(deal, holding, many, ("never", piece, hands))

    def test_hands_that_no_tie_leads_out_of(self):
        self.shown_never(APART, SOME, 0, (0, 1, 2))
        self.shown_never(APART, ((0,), (), (), ()), 0, (0, 1, 2))
        self.shown_never(APART, ((), (), (0, 1), ()), 1, (2,))
        self.shown_never((2, 1, ()), ((0,), ()), 0, (0,))
        self.shown_never((2, 1, ((1, 0, 1),)), ((0,), ()), 0, (0,))

    def test_a_piece_that_no_hand_has(self):
        for hands in every.subsets(range(2)):
            if len(hands) < 2:
                self.shown_never((2, 2, ()), ((1,), ()), 0, hands)
        self.shown_never(ROW, ((0,), (0,), (), ()), 1, ())
        self.shown_never(ROW, ((0,), (0,), (), ()), 1, (3,))
        self.shown_never(ROW, ((0,), (0,), (), ()), 1, (1, 2, 3))
        self.never_shown(ROW, ((0,), (0,), (), ()), ("never", 1, (0,)))

    def test_one_hand(self):
        self.shown_never((1, 1, ()), ((),), 0, ())
        self.never_shown((1, 1, ()), ((),), ("never", 0, (0,)))
        self.never_shown((1, 1, ()), ((0,),), ("never", 0, (0,)))
        self.never_shown((1, 1, ()), ((0,),), ("never", 0, ()))

    def test_all_hands(self):
        self.never_shown(APART, SOME, ("never", 0, (0, 1, 2, 3)))
        self.never_shown((2, 1, ()), ((0,), ()), ("never", 0, (0, 1)))
        self.never_shown((2, 1, ()), ((), ()), ("never", 0, (0, 1)))

    def test_hands_that_a_tie_leads_out_of(self):
        self.never_shown(APART, ((0,), (), (), ()), ("never", 0, (0,)))
        self.never_shown(APART, ((0,), (), (), ()), ("never", 0, (0, 1)))
        self.never_shown(ROW, BEGIN, ("never", 0, (0, 1, 2)))
        self.never_shown(APART, ((), (), (0,), ()), ("never", 0, (2, 3)))

    def test_without_a_hand_that_has_the_piece(self):
        self.never_shown(APART, SOME, ("never", 1, (0, 1, 2)))
        self.never_shown(APART, SOME, ("never", 0, (2,)))
        self.never_shown(APART, SOME, ("never", 0, ()))

    def test_a_piece_that_there_is_not(self):
        for piece in (-1, 2, 3, 99):
            self.never_shown(APART, SOME, ("never", piece, (0, 1, 2)))
            self.never_shown(APART, SOME, ("never", piece, ()))
        for piece in NO_NUMBERS:
            self.never_shown(APART, SOME, ("never", piece, (0, 1, 2)))
            self.never_shown((2, 2, ()), ((), ()), ("never", piece, ()))

    def test_hands_that_fall_or_are_there_twice_or_are_not_there(self):
        for hands in ((2, 1, 0), (0, 2, 1), (0, 1, 2, 2), (0, 1, 1, 2), (-1, 0, 1, 2), (0, 1, 2, 4)):
            self.never_shown(APART, SOME, ("never", 0, hands))
        for hands in ((4,), (-1,), (2, 2), (2, 4), (-1, 2)):
            self.never_shown(APART, ((), (), (), ()), ("never", 0, hands))

    def test_hands_that_are_no_tuple_of_numbers(self):
        for hands in (*NO_CHOICES, [0, 1, 2], "012"):
            self.never_shown((3, 1, ()), ((), (), ()), ("never", 0, hands))

    def test_all_beside_what_the_test_reckons(self):
        for deal, holding in every.small()[::3]:
            for piece in range(deal[1]):
                for hands in every.subsets(range(deal[0])):
                    told = shows(deal, holding, None, ("never", piece, hands))
                    expected = every.never_shows(deal, holding, piece, hands)
                    self.assertIs(told, expected, (deal, holding, piece, hands))


class Asked(RefusalCase):

    REASONS = (("none",), ROW_CUT, LOOP_TABLE, ("never", 0, (0,)), ("",), ("cut",), ("table", None))

    def test_what_is_no_deal_first(self):
        for many, reason in itertools.product((0, 2, None), self.REASONS):
            self.check_no_deals(lambda deal, holding: shows(deal, holding, many, reason))

    def test_then_what_is_no_holding(self):
        for many, reason in itertools.product((0, 2, None), self.REASONS):
            self.check_no_holdings(lambda holding: shows(DEAL, holding, many, reason))

    def test_both(self):
        with self.refused(BadDeal):
            shows((0, 1, ()), None, 0, ("none",))

    def test_what_is_handed_in_is_as_it_was_and_the_answer_the_same(self):
        handed = [
            (ROW, BEGIN, 4, ROW_CUT),
            (LOOP, MIDDLE, 2, LOOP_TABLE),
            (LOOP, MIDDLE, 2, ("table", [[MIDDLE], list(MADE)])),
            (APART, SOME, None, ("never", 0, (0, 1, 2))),
            (APART, SOME, None, ("never", 0, [2, 1, 0])),
        ]
        before = copy.deepcopy(handed)
        told = [[shows(*asked) for asked in handed] for _ in range(3)]
        self.assertEqual(told, [[True, True, False, True, False]] * 3)
        self.assertEqual(handed, before)
