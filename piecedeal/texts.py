"""Texts: a deal and a holding as rows, written and read."""

from piecedeal.deals import check
from piecedeal.errors import BadText

FIGURES = "0123456789"

# How many numbers stand in the rows of these words; in others there may be any number of them.
COUNTS = {"deal": 2, "tie": 3}


def row_of(word, numbers):
    """A row of a word and numbers."""
    return " ".join([word] + [str(number) for number in numbers])


def written(deal, holding):
    """The text of a deal and a holding."""
    check(deal, holding)
    hands, pieces, ties = deal
    rows = [row_of("deal", (hands, pieces))]
    rows.extend([row_of("tie", tie) for tie in ties])
    rows.extend([row_of("hand", held) for held in holding])
    return "\n".join(rows)


def number_of(text):
    """The number that one figure tells."""
    if len(text) != 1 or text not in FIGURES:
        raise BadText("a number isn't written with one figure")
    return int(text)


def parts_of(row):
    """The word of a row and its numbers."""
    word, *texts = row.split(" ")
    numbers = tuple([number_of(text) for text in texts])
    if COUNTS.get(word, len(numbers)) != len(numbers):
        raise BadText("a row has not as many numbers as its word wants")
    return (word, numbers)


def check_words(words):
    """Refuse rows with other words, or in another order."""
    wanted = ["deal"] + ["tie"] * words.count("tie") + ["hand"] * words.count("hand")
    if words != wanted:
        raise BadText("the rows aren't those of a deal and a holding")


def read(text):
    """The deal and the holding of which a text is written."""
    rows = [parts_of(row) for row in text.split("\n")]
    check_words([word for word, _ in rows])
    hands, pieces = rows[0][1]
    ties = tuple([numbers for word, numbers in rows if word == "tie"])
    holding = tuple([numbers for word, numbers in rows if word == "hand"])
    deal = (hands, pieces, ties)
    check(deal, holding)
    return (deal, holding)
