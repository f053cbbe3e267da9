"""The refusals, each of a class of its own, straight under DealError."""


class DealError(ValueError):
    """What every refusal is."""


class NoDeed(DealError):
    """What was handed in is no deed."""


class NotTheirs(DealError):
    """The block isn't out to the name, or isn't kept for it."""


class NoRoom(DealError):
    """What was asked for isn't free for the name."""


class NoLine(DealError):
    """What was said is no line."""


class NoText(DealError):
    """What was handed in is no text of what was to be read; row is the number of the first wrong row."""

    def __init__(self, row):
        DealError.__init__(self, f"row {row}")
        self.row = row
