"""Rounds and plans: what the hands hold behind each round."""

from piecedeal.deals import check, is_number, is_rising
from piecedeal.errors import BadRound


def is_letter(deal, letter):
    """Whether it names a tie and a piece that there are."""
    if not isinstance(letter, tuple) or len(letter) != 2:
        return False
    _, pieces, ties = deal
    tie, piece = letter
    return is_number(tie, 0, len(ties) - 1) and is_number(piece, 0, pieces - 1)


def has_form(deal, letters):
    """Whether the letters have the form of a round."""
    if not isinstance(letters, tuple):
        return False
    return all(is_letter(deal, letter) for letter in letters) and is_rising(letters)


def is_borne(deal, letters):
    """Whether each tie bears all of its letters."""
    _, _, ties = deal
    used = [tie for tie, _ in letters]
    return all(used.count(tie) <= ties[tie][2] for tie in used)


def check_plan(plan):
    """Refuse a plan that is no tuple."""
    if not isinstance(plan, tuple):
        raise BadRound(0, "form")


def check_round(deal, number, letters):
    """Refuse a round that can't be, whatever the hands hold."""
    if not has_form(deal, letters):
        raise BadRound(number, "form")
    if not is_borne(deal, letters):
        raise BadRound(number, "many")


def sendable(deal, holding, letters):
    """Those of the letters whose piece is there to be sent."""
    _, _, ties = deal
    return [(tie, piece) for tie, piece in letters if piece in holding[ties[tie][0]]]


def brought(deal, holding, letters):
    """The holding behind a round in which just these letters come."""
    _, _, ties = deal
    hands = [list(held) for held in holding]
    for tie, piece in letters:
        hands[ties[tie][1]].append(piece)
    return tuple([tuple(sorted(set(held))) for held in hands])


def played(deal, holding, plan):
    """The holdings of a plan, the first one too."""
    check(deal, holding)
    check_plan(plan)
    holdings = [holding]
    for number, letters in enumerate(plan):
        check_round(deal, number, letters)
        if len(sendable(deal, holdings[-1], letters)) < len(letters):
            raise BadRound(number, "piece")
        holdings.append(brought(deal, holdings[-1], letters))
    return holdings


def lossy(deal, holding, plan, lost):
    """The holdings of a plan of which the lost letters bring nothing."""
    check(deal, holding)
    check_plan(plan)
    holdings = [holding]
    for number, letters in enumerate(plan):
        check_round(deal, number, letters)
        sent = sendable(deal, holdings[-1], letters)
        come = [(tie, piece) for tie, piece in sent if (number, tie, piece) not in lost]
        holdings.append(brought(deal, holdings[-1], come))
    return holdings
