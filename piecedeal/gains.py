"""Gains: the most that one round can make of a holding."""

from itertools import combinations

from piecedeal.deals import check, has_each


def with_tie(made, tie, letters, theirs):
    """What a hand can hold when one more tie leads to it, each with the letters that bring it.

    `made` tells the same without this tie, `theirs` are the pieces that the tie can bring.
    """
    more = {}
    # A second letter with the same piece, or a letter less than the tie bears, can bring no more.
    for held, sent in made.items():
        new = [piece for piece in theirs if piece not in held]
        for pieces in combinations(new, int(min(letters, len(new)))):
            more[tuple(sorted(held + pieces))] = sent + tuple([(tie, piece) for piece in pieces])
    return more


def fullest(made):
    """Those of the things that a hand can hold that have no more in another one."""
    return [
        held for held in made
        if not any([other != held and has_each(other, held) for other in made])
    ]


def hand_bests(deal, holding, hand, barred):
    """Pairs for one hand: the most that it can hold behind a round, and the letters that bring it."""
    _, _, ties = deal
    made = {holding[hand]: ()}
    for tie, (one, other, letters) in enumerate(ties):
        if other == hand:
            theirs = [piece for piece in holding[one] if (tie, piece) not in barred]
            made = with_tie(made, tie, letters, theirs)
    # A piece that comes by the wrong one of two ties can leave a hand with less than it could have.
    return [(held, made[held]) for held in fullest(list(made))]


def bests(deal, holding, barred=()):
    """Pairs of a holding that is a gain and the letters of a round that makes it.

    The gains are those of rounds without the barred letters.
    """
    hands, _, _ = deal
    pairs = [((), ())]
    # What one hand gets takes nothing from the others, so each of its bests goes with each of theirs.
    for hand in range(hands):
        own = hand_bests(deal, holding, hand, barred)
        pairs = [(made + (held,), sent + more) for made, sent in pairs for held, more in own]
    return [(made, tuple(sorted(sent))) for made, sent in pairs]


def gains(deal, holding):
    """The holdings that one round can make and that are within no other one of these, rising."""
    check(deal, holding)
    return sorted([made for made, _ in bests(deal, holding)])
