"""Reasons: whether they show that fewer rounds don't do, or that it is never done."""

from piecedeal.deals import check, has_all, has_each, is_choice, is_holding
from piecedeal.deals import is_number, is_whole, lies_within
from piecedeal.gains import bests


def holders(holding, piece):
    """The hands that have the piece."""
    return [hand for hand, held in enumerate(holding) if piece in held]


def reached(deal, starts, steps):
    """These hands and those to which so many ties or fewer lead from them, rising."""
    hands, _, ties = deal
    there = list(starts)
    # Whoever is farther away than there are hands is not reached at all.
    for _ in range(min(steps, hands)):
        there = sorted(set(there + [other for one, other, _ in ties if one in there]))
    return there


def borne_to(deal, hands):
    """How many letters a round all ties bear that lead from other hands to these."""
    _, _, ties = deal
    return sum([letters for one, other, letters in ties if other in hands and one not in hands])


def is_away(deal, holding, hands, piece, ahead):
    """Whether the piece is more than so many ties away from all of these hands."""
    near = reached(deal, holders(holding, piece), ahead)
    return not any(hand in near for hand in hands)


def is_cut(deal, holding, hands, pieces, ahead):
    """Whether these pieces are more than so many ties away from these hands."""
    all_hands, all_pieces, _ = deal
    if not is_choice(all_hands, hands) or not is_choice(all_pieces, pieces):
        return False
    if not hands or not pieces or not is_whole(ahead) or ahead < 0:
        return False
    return all(is_away(deal, holding, hands, piece, ahead) for piece in pieces)


def shows_cut(deal, holding, many, hands, pieces, ahead):
    """Whether a cut shows that fewer rounds don't do."""
    if not is_cut(deal, holding, hands, pieces, ahead):
        return False
    letters = borne_to(deal, hands)
    if letters == 0:
        return True
    return ahead + (len(pieces) + letters - 1) // letters >= many


def is_covered(holding, layer):
    """Whether the holding is within one of a layer."""
    return any(lies_within(holding, other) for other in layer)


def is_layer(deal, layer):
    """Whether it is a tuple of holdings none of which is done."""
    if not isinstance(layer, tuple):
        return False
    return all(is_holding(deal, holding) and not has_all(deal, holding) for holding in layer)


def leads_on(deal, layer, following):
    """Whether what each round can make of each holding of a layer is within one of the next layer."""
    return all([
        is_covered(made, following) for holding in layer for made, _ in bests(deal, holding)
    ])


def shows_table(deal, holding, many, layers):
    """Whether a table shows that fewer rounds don't do, of which there may be None."""
    if not isinstance(layers, tuple) or len(layers) != many:
        return False
    if not all(is_layer(deal, layer) for layer in layers):
        return False
    if not layers or not is_covered(holding, layers[0]):
        return False
    return all([leads_on(deal, layer, following) for layer, following in zip(layers, layers[1:])])


def shows_never(deal, holding, piece, hands):
    """Whether it is shown that the piece never comes to all hands."""
    all_hands, pieces, ties = deal
    if not is_number(piece, 0, pieces - 1) or not is_choice(all_hands, hands):
        return False
    if len(hands) == all_hands:
        return False
    if not has_each(hands, holders(holding, piece)):
        return False
    return all(one not in hands or other in hands for one, other, _ in ties)


def shows(deal, holding, many, reason):
    """Whether the reason shows that fewer rounds than many don't do, or, for None, that none do."""
    check(deal, holding)
    if not isinstance(reason, tuple):
        return False
    match reason:
        case ("none",):
            return many == 0
        case ("cut", hands, pieces, ahead):
            return many is not None and shows_cut(deal, holding, many, hands, pieces, ahead)
        case ("table", layers):
            return shows_table(deal, holding, many, layers)
        case ("never", piece, hands):
            return many is None and shows_never(deal, holding, piece, hands)
    return False
