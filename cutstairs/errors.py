"""The refusals: one base, and one class directly under it for each kind."""


class StairError(ValueError):
    """Any refusal."""


class NoText(StairError):
    """A text that writes no web; `row` is the first row, from 0, that fails."""

    def __init__(self, row):
        super().__init__(f"row {row} writes no web")
        self.row = row


class NoNumber(StairError):
    """A bottom of 0, a division by 0, or what is no number where one is asked."""


class NoCut(StairError):
    """What is no cut of the web."""


class NoPrice(StairError):
    """What is no price of the web."""


class NoStream(StairError):
    """What is no stream at the price."""


class NoName(StairError):
    """What names no place."""


class NoFall(StairError):
    """A price that falls where it may only rise."""


class NoShare(StairError):
    """A web that doesn't share."""


class NoPart(StairError):
    """A graph that has no part of two names."""


class NoTop(StairError):
    """What is no TOP, or not the one that is needed."""


class NoPlace(StairError):
    """What is no place, or one that can't be put."""


class NoTie(StairError):
    """What is no tie, or one that can't be put or taken out."""


class NoUndo(StairError):
    """No deed is left to take back."""


class NoWeb(StairError):
    """There is no place, so no web."""


class NoRow(StairError):
    """A row that the desk doesn't know."""
