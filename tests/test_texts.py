"""Deals and holdings as texts, written and read: points 1 and 15."""

import inspect
import itertools
import unittest

from piecedeal.errors import BadDeal, BadHolding, BadText
from piecedeal.texts import read, written
from tests import every
from tests.wrong import DEAL, EIGHT_TIES, HOLDING, NO_HOLDINGS, RefusalCase

# The text of DEAL and HOLDING, row by row.
ROWS = ("deal 3 3", "tie 0 1 2", "tie 1 2 1", "tie 2 0 4", "hand 0 2", "hand", "hand 1")
TEXT = "deal 3 3\ntie 0 1 2\ntie 1 2 1\ntie 2 0 4\nhand 0 2\nhand\nhand 1"

PLAIN = "deal 1 1\nhand 0"

# Figures of other scripts, and signs that Python takes for digits.
OTHER_FIGURES = ("\u0661", "\u06f1", "\u0967", "\uff11", "\U0001d7cf", "\u00b9", "\u2460", "\u4e00", "\u00bd", "I")

# Signs at which Python splits lines or words, but no line end and no blank.
OTHER_BLANKS = ("\t", "\r", "\v", "\f", "\x00", "\x1c", "\x1d", "\x1e", "\x1f", "\x85", "\xa0",
                "\u2002", "\u2028", "\u2029", "\u3000", "\ufeff", "_", ",", ";")


def text_of(*rows):
    """The rows with line ends between."""
    return "\n".join(rows)


class Interface(unittest.TestCase):

    def test_they_stand_in_their_file_as_the_interface_lists_them(self):
        self.assertEqual((written.__module__, read.__module__), ("piecedeal.texts",) * 2)
        self.assertEqual(list(inspect.signature(written).parameters), ["deal", "holding"])
        self.assertEqual(list(inspect.signature(read).parameters), ["text"])


class Written(RefusalCase):

    def check(self, deal, holding, text):
        """This text is written, and read to the same pair."""
        with self.subTest(deal=deal, holding=holding):
            told = written(deal, holding)
            self.assertIs(type(told), str)
            self.assertEqual(told, text)
            self.assertEqual(read(told), (deal, holding))

    def test_rows_blanks_and_line_ends_to_the_sign(self):
        self.check(DEAL, HOLDING, TEXT)
        self.assertEqual(TEXT, text_of(*ROWS))

    def test_one_hand(self):
        self.check((1, 1, ()), ((0,),), PLAIN)
        self.check((1, 1, ()), ((),), "deal 1 1\nhand")
        self.check((1, 4, ()), ((0, 1, 2, 3),), "deal 1 4\nhand 0 1 2 3")

    def test_no_tie_and_hands_of_no_pieces(self):
        self.check((4, 2, ()), ((), (), (), ()), "deal 4 2\nhand\nhand\nhand\nhand")
        self.check((2, 3, ()), ((), (1, 2)), "deal 2 3\nhand\nhand 1 2")

    def test_eight_ties_in_their_order(self):
        ties = tuple((one, other, 1 + number % 4) for number, (one, other, _) in enumerate(EIGHT_TIES))
        for told in (ties, ties[::-1], ties[3:] + ties[:3]):
            rows = [f"tie {one} {other} {letters}" for one, other, letters in told]
            self.check(
                (4, 4, told), ((0, 1, 2, 3), (), (3,), (1, 2)),
                text_of("deal 4 4", *rows, "hand 0 1 2 3", "hand", "hand 3", "hand 1 2"),
            )

    def test_the_same_when_asked_again(self):
        self.assertEqual([written(DEAL, HOLDING) for _ in range(3)], [TEXT] * 3)

    def test_what_is_no_deal_first(self):
        self.check_no_deals(written)

    def test_then_what_is_no_holding(self):
        self.check_no_holdings(lambda holding: written(DEAL, holding))


class Read(RefusalCase):

    def check_kinds(self, value):
        """It is a whole number, or a tuple of such and of tuples."""
        if type(value) is tuple:
            for part in value:
                self.check_kinds(part)
        else:
            self.assertIs(type(value), int)

    def test_each_written_text_is_read_to_the_same_pair(self):
        texts = {}
        for deal, holding in every.small():
            text = written(deal, holding)
            told = read(text)
            self.assertEqual(told, (deal, holding))
            self.check_kinds(told)
            self.assertEqual(texts.setdefault(text, told), told)
        self.assertEqual(len(texts), len(set(every.small())))

    def test_a_tuple_of_tuples_of_whole_numbers(self):
        told = read(TEXT)
        self.assertEqual(told, (DEAL, HOLDING))
        self.check_kinds(told)

    def test_the_same_when_asked_again(self):
        self.assertEqual([read(TEXT) for _ in range(3)], [(DEAL, HOLDING)] * 3)


class NoTexts(RefusalCase):

    def not_read(self, *texts):
        """Each of the texts is refused as none."""
        for text in texts:
            with self.subTest(text=text), self.refused(BadText):
                read(text)

    def with_row(self, number, row):
        """The text of which this row is another one."""
        return text_of(*ROWS[:number], row, *ROWS[number + 1:])

    def not_read_with(self, sign):
        """No text is read with the sign ahead of, behind or in the stead of one of its signs."""
        for at in range(len(TEXT)):
            self.not_read(
                TEXT[:at] + sign + TEXT[at:],
                TEXT[:at] + sign + TEXT[at + 1:],
            )
        self.not_read(TEXT + sign)

    def test_the_empty_one_and_blank_ones(self):
        self.not_read("", " ", "\n", "\n\n", " \n ", "\t")

    def test_a_line_end_more_at_the_end(self):
        self.not_read(TEXT + "\n", PLAIN + "\n", TEXT + "\n\n", TEXT + "\r\n", "deal 1 1\n", "deal 1 1\nhand\n")

    def test_a_line_end_more_at_the_begin_or_between(self):
        self.not_read("\n" + TEXT, "\n" + PLAIN)
        for at, sign in enumerate(TEXT):
            if sign == "\n":
                self.not_read(TEXT[:at] + "\n" + TEXT[at:], TEXT[:at] + "\r" + TEXT[at:])
        self.not_read(TEXT.replace("\n", "\r\n"), TEXT.replace("\n", "\r"), TEXT.replace("\n", " "))

    def test_a_line_end_in_a_row(self):
        for at, sign in enumerate(TEXT):
            if sign == " ":
                self.not_read(TEXT[:at] + "\n" + TEXT[at + 1:])

    def test_two_blanks(self):
        for at, sign in enumerate(TEXT):
            if sign == " ":
                self.not_read(TEXT[:at] + " " + TEXT[at:])

    def test_a_blank_at_a_rows_begin_or_end(self):
        for number, row in enumerate(ROWS):
            self.not_read(self.with_row(number, " " + row), self.with_row(number, row + " "))

    def test_no_blank_between_words(self):
        for at, sign in enumerate(TEXT):
            if sign == " ":
                self.not_read(TEXT[:at] + TEXT[at + 1:])

    def test_other_signs_anywhere(self):
        for sign in OTHER_BLANKS:
            self.not_read_with(sign)

    def test_other_words(self):
        for word in ("", "Deal", "DEAL", "deals", "dea", "tie", "hand", "deal:", "0", "3", "round"):
            self.not_read(self.with_row(0, f"{word} 3 3"), f"{word} 1 1\nhand 0")
        for word in ("", "Tie", "TIE", "ties", "ti", "deal", "0", "cut"):
            self.not_read(self.with_row(2, f"{word} 1 2 1"))
        for word in ("", "Hand", "HAND", "hands", "han", "deal", "tie", "0", "piece"):
            self.not_read(self.with_row(4, f"{word} 0 2"), self.with_row(5, word), f"deal 1 1\n{word} 0")

    def test_other_rows(self):
        for row in ("round 0 0", "# a word", "0 1 2", "plan", "deal", "end"):
            for number in range(len(ROWS) + 1):
                self.not_read(text_of(*ROWS[:number], row, *ROWS[number:]))
            for number in range(len(ROWS)):
                self.not_read(self.with_row(number, row))

    def test_rows_in_another_order(self):
        words = [row.split()[0] for row in ROWS]
        for order in set(itertools.permutations(words)) - {tuple(words)}:
            rows = {word: [row for row in ROWS if row.startswith(word)] for word in words}
            self.not_read(text_of(*(rows[word].pop(0) for word in order)))

    def test_the_first_row_left_out_or_twice(self):
        self.not_read(text_of(*ROWS[1:]), text_of(*ROWS[4:]), "hand 0", "hand", "tie 0 1 1")
        for number in range(len(ROWS) + 1):
            self.not_read(text_of(*ROWS[:number], ROWS[0], *ROWS[number:]))
        self.not_read("deal 1 1\ndeal 1 1\nhand 0")

    def not_read_in_any_place(self, *numbers):
        """None of these stands for a number in any row."""
        for number in numbers:
            self.not_read(
                self.with_row(0, f"deal {number} 3"),
                self.with_row(0, f"deal 3 {number}"),
                self.with_row(1, f"tie {number} 1 2"),
                self.with_row(1, f"tie 0 {number} 2"),
                self.with_row(3, f"tie 2 0 {number}"),
                self.with_row(4, f"hand {number} 2"),
                self.with_row(4, f"hand 0 {number}"),
                self.with_row(6, f"hand {number}"),
            )

    def test_numbers_of_two_figures(self):
        self.not_read_in_any_place("00", "01", "02", "03", "10", "12", "11", "012", "0123")

    def test_numbers_with_a_sign_or_a_point(self):
        self.not_read_in_any_place("+1", "-1", "-0", "+0", "1.", ".1", "1.0", "1e0", "1_0", "0x1", "1,", "-", "+", ".")

    def test_words_in_the_stead_of_numbers(self):
        self.not_read_in_any_place("", "one", "a", "True", "None", "()", "(0)", "deal", "hand", "'1'")

    def test_figures_that_are_no_plain_ones(self):
        self.not_read_in_any_place(*OTHER_FIGURES)

    def test_a_number_more_or_less(self):
        self.not_read(
            *(self.with_row(0, row) for row in ("deal", "deal 3", "deal 3 3 3", "deal 3 3 3 3")),
            *(self.with_row(1, row) for row in ("tie", "tie 0", "tie 0 1", "tie 0 1 2 0", "tie 0 1 2 1 2 1")),
            "deal", "deal 1", "deal 1\nhand", "deal 1 1 1\nhand 0", "deal 2 1\ntie 0 1\nhand\nhand",
        )

    def test_ahead_of_no_deal_and_no_holding(self):
        self.not_read(
            "deal 0 0\nhand 00",
            "deal 9 9\ntie 0 0 0\nhand 7 ",
            "deal 0 1\n",
            "deal 1 1\nhand 5\nhand 0 0\n",
            "deal 5 1\nhand\ntie 0 1 1",
            "deal 2 1\ntie 0 0 1\nhand\nhands",
            "deal 2 1\nhand\nhand +0",
        )


class GoodRows(RefusalCase):
    """Rows as they are to be, but of no deal, or of what is no holding of it."""

    def refused_text(self, error, *rows):
        """The text of these rows is refused with this error."""
        with self.subTest(rows=rows), self.refused(error):
            read(text_of(*rows))

    def test_counts_of_hands_and_pieces_that_can_not_be(self):
        for count in (0, 5, 6, 7, 8, 9):
            hands = ["hand 0"] * count
            self.refused_text(BadDeal, f"deal {count} 1", *hands)
            self.refused_text(BadDeal, f"deal 1 {count}", "hand")
            self.refused_text(BadDeal, f"deal {count} {count}", *hands)
            self.refused_text(BadDeal, f"deal {count} 1")

    def test_each_figure_is_read(self):
        for figure in range(10):
            rows = (f"deal 1 {figure}", "hand")
            if 1 <= figure <= 4:
                self.assertEqual(read(text_of(*rows)), ((1, figure, ()), ((),)))
            else:
                self.refused_text(BadDeal, *rows)
            rows = ("deal 1 4", f"hand {figure}")
            if figure < 4:
                self.assertEqual(read(text_of(*rows)), ((1, 4, ()), ((figure,),)))
            else:
                self.refused_text(BadHolding, *rows)

    def test_ties_that_can_not_be(self):
        for ties in (
            ["tie 0 0 1"], ["tie 1 1 1"], ["tie 0 2 1"], ["tie 2 0 1"], ["tie 9 0 1"], ["tie 0 9 1"],
            ["tie 0 1 0"], ["tie 0 1 5"], ["tie 0 1 9"], ["tie 0 1 1", "tie 0 1 1"],
            ["tie 0 1 1", "tie 1 0 1", "tie 0 1 2"],
        ):
            self.refused_text(BadDeal, "deal 2 1", *ties, "hand 0", "hand")

    def test_a_ninth_tie(self):
        pairs = list(itertools.permutations(range(4), 2))
        rows = [f"tie {one} {other} 1" for one, other in pairs]
        hands = ["hand"] * 4
        self.assertEqual(len(read(text_of("deal 4 1", *rows[:8], *hands))[0][2]), 8)
        self.refused_text(BadDeal, "deal 4 1", *rows[:9], *hands)
        self.refused_text(BadDeal, "deal 4 1", *rows, *hands)

    def test_no_hand_or_too_few_or_too_many(self):
        for count in (0, 1, 3, 4, 5):
            self.refused_text(BadHolding, "deal 2 1", "tie 0 1 1", *(["hand 0"] * count))
        self.refused_text(BadHolding, "deal 1 1")

    def test_pieces_that_fall_are_there_twice_or_are_not_there(self):
        for row in (
            "hand 1 0", "hand 0 0", "hand 2", "hand 0 2", "hand 0 1 2", "hand 9", "hand 0 1 1", "hand 0 1 0",
            "hand 0 1 2 3 4", "hand 0 1 2 3 4 5 6 7 8 9",
        ):
            self.refused_text(BadHolding, "deal 2 2", "tie 0 1 1", row, "hand")
            self.refused_text(BadHolding, "deal 2 2", "tie 0 1 1", "hand", row)

    def test_no_deal_ahead_of_no_holding(self):
        self.refused_text(BadDeal, "deal 2 1", "tie 0 0 1", "hand 5")
        self.refused_text(BadDeal, "deal 5 1", "hand 1 0")
        self.refused_text(BadDeal, "deal 0 0")

    def test_holdings_that_are_none_of_a_deal(self):
        for holding in NO_HOLDINGS:
            rows = self.rows_of(holding)
            if rows is not None:
                self.refused_text(BadHolding, *ROWS[:4], *rows)

    def rows_of(self, holding):
        """The rows of tuples of numbers from 0 to 9, else None."""
        if type(holding) is not tuple or any(type(held) is not tuple for held in holding):
            return None
        if any(type(piece) is not int or not 0 <= piece <= 9 for held in holding for piece in held):
            return None
        return [" ".join(["hand", *map(str, held)]) for held in holding]

    def test_what_is_refused_is_refused_again_and_the_others_are_read_as_before(self):
        for _ in range(3):
            self.refused_text(BadText, *ROWS, "")
            self.refused_text(BadDeal, "deal 0 1")
            self.refused_text(BadHolding, *ROWS[:-1])
            self.assertEqual(read(TEXT), (DEAL, HOLDING))
