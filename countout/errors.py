"""What may be refused, an error for each kind of refusal."""


class CountError(ValueError):
    """Any refusal."""


class NoRing(CountError):
    """What is handed in is no ring."""


class NoMany(CountError):
    """There is no ring of so many hands."""


class NoStep(CountError):
    """It is no step."""


class NoPlace(CountError):
    """There is no such place."""


class NoCount(CountError):
    """There is no such count."""


class NoHand(CountError):
    """It is no hand, or none that is left."""


class TwiceTold(CountError):
    """The hand is in, or was in before."""


class TooMany(CountError):
    """More hands cannot come in."""
