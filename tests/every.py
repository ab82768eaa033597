"""Small deals, and all that can be made of them, reckoned without the program."""

import functools
import itertools
import math


def subsets(values):
    """All choices of the values, each in their order, the empty one too."""
    values = list(values)
    counts = range(len(values) + 1)
    return [chosen for count in counts for chosen in itertools.combinations(values, count)]


def every_holding(hands, pieces):
    """All holdings of so many hands and pieces."""
    return itertools.product(subsets(range(pieces)), repeat=hands)


def every_deal(hands, pieces):
    """All deals of so many hands and pieces with up to four ties that bear one or two letters."""
    for count in range(5):
        for chosen in itertools.combinations(itertools.permutations(range(hands), 2), count):
            for letters in itertools.product((1, 2), repeat=count):
                yield (hands, pieces, tuple((*pair, bears) for pair, bears in zip(chosen, letters)))


# Four hands: in a row, in a ring, around a first one, and with eight ties.
WIDE = (
    ((4, 2, ((0, 1, 1), (1, 2, 1), (2, 3, 1))), ((0, 1), (), (), ())),
    ((4, 2, ((0, 1, 2), (1, 2, 1), (2, 3, 2))), ((0,), (1,), (), ())),
    ((4, 2, ((0, 1, 1), (1, 2, 1), (2, 3, 1), (3, 0, 1))), ((0,), (), (1,), ())),
    ((4, 2, ((0, 1, 1), (1, 2, 2), (2, 3, 1), (3, 0, 2))), ((0, 1), (), (), ())),
    ((4, 2, ((0, 1, 1), (0, 2, 2), (0, 3, 4))), ((0, 1), (), (), ())),
    ((4, 2, ((1, 0, 1), (2, 0, 1), (3, 0, 1), (0, 3, 1))), ((), (0,), (1,), (0, 1))),
    ((4, 2, ((3, 2, 1), (2, 1, 1), (1, 0, 1), (3, 0, 1))), ((), (), (), (0, 1))),
    ((4, 1, ((0, 1, 1), (1, 0, 2), (1, 2, 1), (2, 1, 3), (2, 3, 1), (3, 2, 4), (0, 3, 1), (3, 0, 1))),
     ((), (0,), (), ())),
    ((3, 3, ((0, 1, 2), (1, 2, 1))), ((0, 1, 2), (), ())),
    ((3, 3, ((0, 1, 1), (1, 2, 1), (2, 0, 1))), ((0,), (1,), (2,))),
    ((2, 4, ((0, 1, 3), (1, 0, 1))), ((0, 1, 2, 3), ())),
    ((2, 4, ((0, 1, 4), (1, 0, 3))), ((0, 1, 3), (2,))),
)


# No cut shows the fewest rounds of these, of which there are as many as stands before them.
UNCUT = (
    (2, (3, 2, ((0, 1, 1), (0, 2, 2), (1, 0, 2), (1, 2, 1))), ((), (0, 1), ())),
    (2, (3, 2, ((0, 1, 2), (0, 2, 1), (1, 0, 1), (1, 2, 2))), ((0, 1), (), ())),
    (2, (3, 2, ((0, 1, 1), (0, 2, 1), (1, 0, 1), (1, 2, 1), (2, 0, 1), (2, 1, 1))), ((0, 1), (), ())),
    (3, (3, 2, ((0, 2, 1), (1, 0, 2), (2, 1, 1))), ((), (), (0, 1))),
    (3, (3, 2, ((0, 2, 2), (1, 0, 1), (2, 0, 2), (2, 1, 2))), ((), (0, 1), ())),
    (3, (3, 3, ((0, 1, 2), (0, 2, 1), (1, 0, 1), (2, 0, 1))), ((), (1,), (0, 2))),
    (3, (4, 2, ((1, 2, 1), (2, 0, 2), (2, 3, 2), (3, 1, 1))), ((), (0, 1), (), (0,))),
    (4, (3, 3, ((0, 2, 1), (1, 2, 1), (2, 0, 2), (2, 1, 2))), ((0, 1, 2), (), ())),
    (4, (4, 2, ((1, 2, 1), (2, 3, 1), (3, 0, 2), (3, 1, 1))), ((), (0, 1), (), ())),
)


@functools.cache
def small():
    """More than two thousand pairs of a deal and a holding of it."""
    told = [*WIDE, *((deal, holding) for _, deal, holding in UNCUT)]
    for hands, pieces, step in ((1, 1, 1), (1, 2, 1), (2, 1, 1), (2, 2, 1), (2, 3, 3), (3, 1, 3), (3, 2, 37)):
        pairs = itertools.product(every_deal(hands, pieces), every_holding(hands, pieces))
        told.extend(itertools.islice(pairs, 0, None, step))
    return told


def borne(deal, letters):
    """Whether each tie bears its letters."""
    ties = deal[2]
    return all(sum(tie == number for tie, _ in letters) <= ties[number][2] for number in range(len(ties)))


@functools.cache
def every_round(deal):
    """All rounds of the deal, whatever the hands hold."""
    _, pieces, ties = deal
    letters = itertools.product(range(len(ties)), range(pieces))
    return [chosen for chosen in subsets(letters) if borne(deal, chosen)]


@functools.cache
def every_made(deal, holding):
    """All that some round makes of the holding."""
    ties = deal[2]
    made = set()
    for letters in every_round(deal):
        if all(piece in holding[ties[tie][0]] for tie, piece in letters):
            hands = [set(held) for held in holding]
            for tie, piece in letters:
                hands[ties[tie][1]].add(piece)
            made.add(tuple(tuple(sorted(held)) for held in hands))
    return sorted(made)


def within(one, other):
    """Whether a holding is within another one."""
    return all(set(ours) <= set(theirs) for ours, theirs in zip(one, other))


def done(deal):
    """The holding of the deal that is done."""
    return (tuple(range(deal[1])),) * deal[0]


@functools.cache
def fewest(deal, holding):
    """The fewest rounds behind which the holding is done, None if it never is."""
    seen, layer = {holding}, {holding}
    for many in itertools.count():
        if done(deal) in layer:
            return many
        layer = {made for held in layer for made in every_made(deal, held)} - seen
        if not layer:
            return None
        seen |= layer


def layers(deal, holding, many):
    """A table: all that can be made in no round, in one, and so on, so many layers in all."""
    told = [(holding,)]
    while len(told) < many:
        told.append(tuple(sorted({made for held in told[-1] for made in every_made(deal, held)})))
    return tuple(told[:many])


@functools.cache
def aways(deal):
    """How many ties lead from each hand to each one, one behind the other."""
    hands, _, ties = deal
    away = {(one, other): math.inf for one in range(hands) for other in range(hands)}
    away.update({(one, other): 1 for one, other, _ in ties})
    away.update({(hand, hand): 0 for hand in range(hands)})
    for via, one, other in itertools.product(range(hands), repeat=3):
        away[one, other] = min(away[one, other], away[one, via] + away[via, other])
    return away


def every_cut(deal):
    """The hands, pieces and ahead of all cuts, and of more that are none."""
    hands, pieces, _ = deal
    return itertools.product(subsets(range(hands))[1:], subsets(range(pieces))[1:], range(hands + 1))


def cut_shows(deal, holding, hands, pieces, ahead):
    """The most rounds for which the cut shows that fewer don't do, -1 if it is none."""
    away = aways(deal)
    for piece, hand, one in itertools.product(pieces, hands, range(deal[0])):
        if piece in holding[one] and away[one, hand] <= ahead:
            return -1
    letters = sum(bears for one, other, bears in deal[2] if other in hands and one not in hands)
    return math.inf if letters == 0 else ahead + math.ceil(len(pieces) / letters)


def table_shows(deal, holding, table):
    """Whether layers of holdings show that so many rounds don't do; the first one is not empty."""
    for layer in table:
        if any(held == done(deal) for held in layer):
            return False
    if not any(within(holding, held) for held in table[0]):
        return False
    for layer, following in zip(table, table[1:]):
        for made in {made for held in layer for made in every_made(deal, held)}:
            if not any(within(made, held) for held in following):
                return False
    return True


def never_shows(deal, holding, piece, hands):
    """Whether the piece never comes out of these hands."""
    away = aways(deal)
    inside = [hand for hand in range(deal[0]) if hand in hands]
    outside = [hand for hand in range(deal[0]) if hand not in hands]
    if not outside or any(piece in holding[hand] for hand in outside):
        return False
    return all(away[one, other] == math.inf for one in inside for other in outside)
