"""The fewest rounds behind which a holding is done, with a plan and a reason."""

from itertools import combinations, product

from piecedeal.deals import check
from piecedeal.errors import NoDeal
from piecedeal.gains import bests
from piecedeal.reasons import holders, is_covered, reached, shows_cut


def check_reach(deal, holding):
    """Refuse a holding of which a piece never comes to all hands."""
    hands, pieces, _ = deal
    for piece in range(pieces):
        there = reached(deal, holders(holding, piece), hands)
        if len(there) < hands:
            raise NoDeal(("never", piece, tuple(there)))


def done_of(deal):
    """The holding of the deal that is done."""
    hands, pieces, _ = deal
    return (tuple(range(pieces)),) * hands


def outermost(holdings):
    """Those of different holdings that are within no other one."""
    kept = []
    # Whatever a holding is within has more pieces, so that it is kept ahead of it.
    for holding in sorted(holdings, key=lambda one: sum(map(len, one)), reverse=True):
        if not is_covered(holding, kept):
            kept.append(holding)
    return kept


def next_layer(deal, layer, barred=()):
    """The most that one round makes of the layer's holdings, each with what it was made of and by.

    The round is one without the barred letters.
    """
    made = {}
    for holding in layer:
        for behind, letters in bests(deal, holding, barred):
            made[behind] = (holding, letters)
    return {holding: made[holding] for holding in outermost(list(made))}


def layers_to(deal, holding, done):
    """The layers from the holding to the first one in which it is done."""
    layers = [{holding: None}]
    while done not in layers[-1]:
        layers.append(next_layer(deal, layers[-1]))
    return layers


def plan_of(layers, done):
    """The rounds by which the holdings of the layers come to the one that is done."""
    plan = []
    holding = done
    for layer in reversed(layers[1:]):
        holding, letters = layer[holding]
        plan.append(letters)
    return tuple(reversed(plan))


def choices(many):
    """All choices of one or more of so many numbers from 0 on."""
    return [chosen for size in range(1, many + 1) for chosen in combinations(range(many), size)]


def cut_for(deal, holding, many):
    """A cut that shows that fewer rounds don't do, or None if none does."""
    hands, pieces, _ = deal
    some, what = choices(hands), choices(pieces)
    # No hand is as many ties away from another one as there are hands.
    for chosen, those, ahead in product(some, what, range(hands)):
        if shows_cut(deal, holding, many, chosen, those, ahead):
            return ("cut", chosen, those, ahead)
    return None


def reason_for(deal, holding, layers):
    """The reason that fewer rounds don't do than the layers but the last."""
    many = len(layers)
    if many == 0:
        return ("none",)
    cut = cut_for(deal, holding, many)
    if cut is not None:
        return cut
    return ("table", tuple([tuple(sorted(layer)) for layer in layers]))


def least(deal, holding):
    """The fewest rounds behind which the holding is done, a plan of so many, and the reason."""
    check(deal, holding)
    check_reach(deal, holding)
    done = done_of(deal)
    layers = layers_to(deal, holding, done)
    return (len(layers) - 1, plan_of(layers, done), reason_for(deal, holding, layers[:-1]))
