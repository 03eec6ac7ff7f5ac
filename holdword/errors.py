"""The refusals of the program."""


class HoldError(ValueError):
    """Any refusal; row is the number of the row at fault, where there is one."""

    def __init__(self, row=None):
        self.row = row


class NoTown(HoldError):
    """What was handed in writes no town, or names what a town has not."""


class NoPile(HoldError):
    """Two unlike letters bear one name."""


class NoLetter(HoldError):
    """What was handed in writes no letter and no claim."""


class NoRow(HoldError):
    """What was handed in is no row that a desk answers."""
