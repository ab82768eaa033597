"""What the program refuses."""


class DealError(ValueError):
    """Any refusal."""


class BadDeal(DealError):
    """What was handed in is no deal."""


class BadHolding(DealError):
    """What was handed in is no holding of its deal."""


class BadRound(DealError):
    """A round of a plan can't be: its number, and the word that says why."""

    def __init__(self, number, why):
        super().__init__(f"round {number}: {why}")
        self.number = number
        self.why = why


class NoDeal(DealError):
    """The holding is never done: the reason shows it."""

    def __init__(self, reason):
        super().__init__("it is never done")
        self.reason = reason


class BadText(DealError):
    """A text is not written as a deal and a holding are."""
