"""Ways: by which letters a hand has a piece, and who knows of it by the letters."""

from piecedeal.reasons import holders
from piecedeal.rounds import played


def sendings(plan, piece):
    """By which (round, tie) the plan sends the piece, rising."""
    return [
        (number, tie) for number, letters in enumerate(plan) for tie, sent in letters if sent == piece
    ]


def first_to(ties, sent, hand):
    """The first (round, tie) of those by which a piece was sent that leads to the hand."""
    return min([(number, tie) for number, tie in sent if ties[tie][1] == hand])


def way(deal, holding, plan, hand, piece):
    """By which (round, tie) a piece went to a hand, one behind the other; None if it hasn't it."""
    holdings = played(deal, holding, plan)
    if hand not in holders(holdings[-1], piece):
        return None
    _, _, ties = deal
    sent, at_first = sendings(plan, piece), holders(holding, piece)
    back = []
    # Who sent it had it ahead of that round, so this goes back to a hand that had it at first.
    while hand not in at_first:
        step = first_to(ties, sent, hand)
        back.append(step)
        hand = ties[step[1]][0]
    return back[::-1]


def knowers(deal, holding, plan, hand, piece):
    """The other hands that sent the piece to a hand or got it from it, rising."""
    # What can't be played is refused, though of the holdings nothing is asked here.
    played(deal, holding, plan)
    _, _, ties = deal
    pairs = [ties[tie][:2] for _, tie in sendings(plan, piece)]
    return sorted({one if other == hand else other for one, other in pairs if hand in (one, other)})
