"""The refusals, one class for each kind."""


class BadRow(ValueError):
    """A change cannot have the row of this number."""

    def __init__(self, row):
        ValueError.__init__(self, f"row {row} is none that the change can have")
        self.row = row


class BadSize(ValueError):
    """A size that no text has, or another one than is called for."""


class NoSpare(LookupError):
    """It cannot be done with fewer slots than are needed."""

    def __init__(self, need):
        LookupError.__init__(self, f"a spare of {need} is needed")
        self.need = need


class NoVersion(KeyError):
    """A version that is not there, or that cannot be dropped."""


class Busy(RuntimeError):
    """A shelf is on its way."""


class NoText(ValueError):
    """What is read is not written as it must be."""
