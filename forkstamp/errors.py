"""The refusals."""


class StampError(ValueError):
    """Any refusal."""


class BadOwn(StampError):
    """What was handed in is no own part."""


class BadTold(StampError):
    """What was handed in is no told part."""


class Shared(StampError):
    """Two own parts share something where they must not."""


class NoOwn(StampError):
    """An own part has no place at which a deed could be told."""


class BadRow(StampError):
    """No stamp is packed into this row."""


class NoHand(StampError):
    """There is no such hand."""
