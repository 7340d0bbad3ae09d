"""The refusals."""


class RowError(ValueError):
    """Any refusal."""


class NoRule(RowError):
    """No rule, or rules that do not go together."""


class NoBack(RowError):
    """Steps back by a rule that does not lead back."""


class NoFit(RowError):
    """No rule fits, or nothing is left to take back."""


class NoAsk(RowError):
    """A line that asks nothing."""


class NoNumber(RowError):
    """A number that is not from 0 below its bound."""

    def __init__(self, number):
        # The number stays out of the text: Python refuses to write out very long ones.
        RowError.__init__(self, "not a number from 0 below the bound")
        self.number = number
