"""Deals, holdings and rounds that are none, for the tests of all functions that take them."""

import contextlib
import unittest

from piecedeal.errors import BadDeal, BadHolding, BadRound, BadText, DealError, NoDeal

REFUSALS = (BadDeal, BadHolding, BadRound, NoDeal, BadText)

# Three hands in a row, and back: ties 0 and 1 lead onwards, tie 2 leads to the first hand.
DEAL = (3, 3, ((0, 1, 2), (1, 2, 1), (2, 0, 4)))
HOLDING = ((0, 2), (), (1,))


def tied(*ties):
    """A deal of three hands and two pieces with these ties."""
    return (3, 2, ties)


PAIRS = tuple((one, other) for one in range(4) for other in range(4) if one != other)
EIGHT_TIES = tuple((one, other, 1) for one, other in PAIRS[:8])
NINE_TIES = tuple((one, other, 1) for one, other in PAIRS[:9])

NO_DEALS = (
    None,
    True,
    0,
    "",
    "211",
    (),
    (2, 1),
    (2, 1, (), ()),
    [2, 1, ()],
    {2: 1},
    (None, 1, ()),
    ("2", 1, ()),
    ((2,), 1, ()),
    (2, None, ()),
    (2, "1", ()),
    (2, [1], ()),
    (0, 1, ()),
    (-1, 1, ()),
    (5, 1, ()),
    (True, 1, ()),
    (False, 1, ()),
    (2, 0, ()),
    (2, -1, ()),
    (2, 5, ()),
    (2, True, ()),
    (2, False, ()),
    (2, 1, None),
    (2, 1, 0),
    (2, 1, ""),
    (2, 1, []),
    (2, 1, {}),
    (2, 1, [(0, 1, 1)]),
    (2, 1, (0, 1, 1)),
    (4, 1, NINE_TIES),
    tied(None),
    tied(0),
    tied("011"),
    tied([0, 1, 1]),
    tied(()),
    tied((0, 1)),
    tied((0, 1, 1, 1)),
    tied((0, 0, 1)),
    tied((2, 2, 1)),
    tied((0, 3, 1)),
    tied((3, 0, 1)),
    tied((-1, 0, 1)),
    tied((0, -1, 1)),
    tied((0, 1, 0)),
    tied((0, 1, -1)),
    tied((0, 1, 5)),
    tied((True, 0, 1)),
    tied((False, 1, 1)),
    tied((0, True, 1)),
    tied((1, False, 1)),
    tied((0, 1, True)),
    tied((0, 1, None)),
    tied(("0", 1, 1)),
    tied((0, "1", 1)),
    tied((0, 1, "1")),
    tied(([0], 1, 1)),
    tied((0, [1], 1)),
    tied((0, 1, [1])),
    tied((0, 1, 1), (0, 1, 1)),
    tied((0, 1, 1), (0, 1, 2)),
    tied((0, 1, 1), (1, 2, 1), (0, 1, 2)),
    tied((0, 1, 1), (1, 2, 0)),
    tied((0, 1, 1), None),
    (1, 1, ((0, 1, 1),)),
)

# None of these is a holding of DEAL.
NO_HOLDINGS = (
    None,
    True,
    3,
    "",
    "012",
    (),
    ((0, 2), (1,)),
    ((0, 2), (), (1,), ()),
    [(0, 2), (), (1,)],
    {0: (), 1: (), 2: ()},
    ([0, 2], (), (1,)),
    ((0, 2), [], (1,)),
    ((0, 2), (), [1]),
    ((0, 2), None, (1,)),
    ((0, 2), "", (1,)),
    ((0, 2), "0", (1,)),
    ((0, 2), (), 1),
    ((0, 2), (), {1: 1}),
    ((2, 0), (), (1,)),
    ((0, 2), (), (2, 1, 0)),
    ((0, 2), (0, 2, 1), (1,)),
    ((0, 0), (), (1,)),
    ((0, 2), (1, 2, 2), (1,)),
    ((0, 2), (), (3,)),
    ((0, 2), (), (0, 3)),
    ((-1, 0), (), (1,)),
    ((0, 2), (-1,), (1,)),
    ((0, 2), (), (True,)),
    ((False, 2), (), (1,)),
    ((0, 2), (None,), (1,)),
    ((0, 2), ("0",), (1,)),
    ((0, 2), ((0,),), (1,)),
    ((0, 2), ([0],), (1,)),
)

# None of these is a round of DEAL, whatever the hands hold.
NO_ROUNDS = (
    None,
    True,
    0,
    "",
    "00",
    [],
    {},
    [(0, 0)],
    (0, 0),
    (None,),
    (0,),
    ("00",),
    ([0, 0],),
    ((),),
    ((0,),),
    ((0, 0, 0),),
    ((3, 0),),
    ((-1, 0),),
    ((0, 3),),
    ((0, -1),),
    ((True, 0),),
    ((False, 0),),
    ((0, True),),
    ((0, False),),
    ((None, 0),),
    ((0, None),),
    (("0", 0),),
    ((0, "0"),),
    (([0], 0),),
    ((0, [0]),),
    ((0, 0), (0, 0)),
    ((0, 2), (0, 0)),
    ((2, 1), (0, 0)),
    ((0, 0), (0, 2), (0, 1)),
    ((0, 0), None),
    ((0, 0), (3, 0)),
)

NO_PLANS = (None, True, 0, "", "form", [], [()], [((0, 0),)], {})


class RefusalCase(unittest.TestCase):
    """A test case with the checks that the tests of several functions share."""

    @contextlib.contextmanager
    def refused(self, error, **values):
        """What stands below is to be refused with this error alone and these values.

        The error stands in `exception` of what is given, once it was refused.
        """
        with self.assertRaises(DealError) as caught:
            yield caught
        kinds = [kind for kind in REFUSALS if isinstance(caught.exception, kind)]
        self.assertEqual(kinds, [error])
        self.assertIsInstance(caught.exception, ValueError)
        self.assertEqual({name: getattr(caught.exception, name) for name in values}, values)

    def check_no_deals(self, ask):
        """`ask(deal, holding)` is to refuse all that is no deal, ahead of any holding."""
        for deal in NO_DEALS:
            for holding in (((),), ((), ()), ((), (), ()), None, ((0, 0), [], ())):
                with self.subTest(deal=deal, holding=holding), self.refused(BadDeal):
                    ask(deal, holding)

    def check_no_holdings(self, ask):
        """`ask(holding)`, with DEAL, is to refuse all that is no holding."""
        for holding in NO_HOLDINGS:
            with self.subTest(holding=holding), self.refused(BadHolding):
                ask(holding)
