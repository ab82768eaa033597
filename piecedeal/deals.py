"""Deals and holdings: which there are, and what is asked of holdings alone."""

from piecedeal.errors import BadDeal, BadHolding

MOST_HANDS = 4
MOST_PIECES = 4
MOST_TIES = 8
MOST_LETTERS = 4


def is_whole(value):
    """Whether the value is a whole number."""
    # Python counts True and False as integers, the document does not.
    return isinstance(value, int) and not isinstance(value, bool)


def is_number(value, low, high):
    """Whether the value is a whole number from low to high."""
    return is_whole(value) and low <= value <= high


def is_rising(values):
    """Whether the values rise, none of them twice."""
    return list(values) == sorted(set(values))


def is_tie(hands, tie):
    """Whether it is a tie among so many hands."""
    if not isinstance(tie, tuple) or len(tie) != 3:
        return False
    one, other, letters = tie
    if not is_number(one, 0, hands - 1) or not is_number(other, 0, hands - 1):
        return False
    return one != other and is_number(letters, 1, MOST_LETTERS)


def are_ties(hands, ties):
    """Whether they can be the ties of a deal with so many hands."""
    if not isinstance(ties, tuple) or len(ties) > MOST_TIES:
        return False
    if not all(is_tie(hands, tie) for tie in ties):
        return False
    return len({tie[:2] for tie in ties}) == len(ties)


def is_deal(deal):
    """Whether it is a deal."""
    if not isinstance(deal, tuple) or len(deal) != 3:
        return False
    hands, pieces, ties = deal
    if not is_number(hands, 1, MOST_HANDS) or not is_number(pieces, 1, MOST_PIECES):
        return False
    return are_ties(hands, ties)


def is_choice(many, chosen):
    """Whether it is a rising tuple of numbers, of so many from 0 on."""
    if not isinstance(chosen, tuple):
        return False
    return all(is_number(number, 0, many - 1) for number in chosen) and is_rising(chosen)


def is_holding(deal, holding):
    """Whether it is a holding of the deal."""
    hands, pieces, _ = deal
    if not isinstance(holding, tuple) or len(holding) != hands:
        return False
    return all(is_choice(pieces, held) for held in holding)


def check_deal(deal):
    """Refuse what is no deal."""
    if not is_deal(deal):
        raise BadDeal("this is no deal")


def check_holding(deal, holding):
    """Refuse what is no holding of the deal."""
    if not is_holding(deal, holding):
        raise BadHolding("this is no holding of the deal")


def check(deal, holding):
    """Refuse what is no deal, then what is no holding of it."""
    check_deal(deal)
    check_holding(deal, holding)


def has_each(held, needed):
    """Whether each of the needed ones is among those that are held."""
    return all(number in held for number in needed)


def has_all(deal, holding):
    """Whether a holding that was looked at before is done."""
    _, pieces, _ = deal
    return all(len(held) == pieces for held in holding)


def lies_within(one, other):
    """Whether a holding is within another one, both of a deal that was looked at before."""
    return all([has_each(theirs, ours) for ours, theirs in zip(one, other)])


def is_done(deal, holding):
    """Whether all hands have all pieces."""
    check(deal, holding)
    return has_all(deal, holding)


def is_within(deal, one, other):
    """Whether each hand has all pieces of one holding in the other, too."""
    check(deal, one)
    check_holding(deal, other)
    return lies_within(one, other)
