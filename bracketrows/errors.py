"""The refusals of the program, each of a class of its own."""


class RowError(ValueError):
    """Any refusal."""


class NoKinds(RowError):
    """The number of kinds is no whole number from 1 to 4."""


class NoLine(RowError):
    """A thing is no row by the kinds that there are."""


class NotRight(RowError):
    """A row is not right."""


class NoTree(RowError):
    """A thing is no tree by the kinds that there are."""


class NoNumber(RowError):
    """A number is none of those that may stand there."""


class NoWeights(RowError):
    """A thing is no list of weights."""


class NoPlace(RowError):
    """A place of the row, or a bracket for it, is none."""


class NoFilling(RowError):
    """A row has no right filling that counts."""


class TooMany(RowError):
    """A row would have more than forty signs."""


class NoName(RowError):
    """No row stands by a name."""


class NoRow(RowError):
    """What is said to a desk is no row of words that it knows."""
