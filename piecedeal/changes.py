"""Changes: hands that leave or come, and plans that are mended when letters are lost."""

from piecedeal.deals import check
from piecedeal.errors import BadDeal
from piecedeal.least import done_of, least, next_layer, plan_of
from piecedeal.rounds import lossy, sendable


def number_without(hand, number):
    """The number that another hand has when this one is gone."""
    return number - 1 if number > hand else number


def ties_without(ties, hand):
    """The ties between the other hands, as they are told when this one is gone."""
    return tuple([
        (number_without(hand, one), number_without(hand, other), letters)
        for one, other, letters in ties if hand not in (one, other)
    ])


def leaves(deal, holding, hand):
    """The deal and the holding without a hand."""
    check(deal, holding)
    _, pieces, ties = deal
    rest = tuple([held for number, held in enumerate(holding) if number != hand])
    changed = (len(rest), pieces, ties_without(ties, hand))
    check(changed, rest)
    return (changed, rest)


def comes(deal, holding, pieces, ties):
    """The deal and the holding with a hand more, which has these pieces, and with these ties, too."""
    check(deal, holding)
    if not isinstance(ties, tuple):
        raise BadDeal("the ties that come are no tuple")
    hands, all_pieces, before = deal
    changed = (hands + 1, all_pieces, before + ties)
    more = holding + (pieces,)
    check(changed, more)
    return (changed, more)


def sent_in(deal, holdings, plan):
    """The rounds of a plan without the letters whose piece isn't in the holding to be sent."""
    return tuple([
        tuple(sendable(deal, holding, letters)) for holding, letters in zip(holdings, plan)
    ])


def spared(deal, holding, rounds, ahead, lost):
    """As many rounds as these that do without the lost letters, or just these where none do.

    The numbers of lost letters count the rounds that are ahead of these, too.
    """
    done = done_of(deal)
    layers = [{holding: None}]
    for number in range(ahead, ahead + len(rounds)):
        barred = [(tie, piece) for late, tie, piece in lost if late == number]
        layers.append(next_layer(deal, layers[-1], barred))
    return plan_of(layers, done) if done in layers[-1] else rounds


def mended(deal, holding, plan, many, lost):
    """The first rounds of a plan and the fewest behind them, and the reason that fewer don't do."""
    holdings = lossy(deal, holding, plan, lost)
    first = sent_in(deal, holdings, plan[:many])
    stands = holdings[len(first)]
    _, rounds, reason = least(deal, stands)
    # Lost letters of later rounds than these would harm the plan where it sends the same ones.
    return (first + spared(deal, stands, rounds, len(first), lost), reason)
