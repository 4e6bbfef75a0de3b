"""The refusals of the program."""


class SplitError(ValueError):
    """Any refusal."""


class NoCut(SplitError):
    """Parts that leave a column out."""


class TooMany(SplitError):
    """More parts or rules than there may be."""


class NoText(SplitError):
    """A text that tells no table; its line is the number of the first line that does not fit, from 0 on."""

    def __init__(self, line=0):
        SplitError.__init__(self, f"line {line} does not fit where it stands")
        self.line = line


class NoRow(SplitError):
    """A row that a desk does not know."""


class NoSet(SplitError):
    """A word that is no set of columns, where one is asked for."""
