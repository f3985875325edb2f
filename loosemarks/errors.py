"""The refusals of the program."""


class MarkError(ValueError):
    """Any refusal."""


class NoPile(MarkError):
    """What was handed in is no pile."""


class NoRow(MarkError):
    """What was handed in is no row."""


class NoMove(MarkError):
    """What was asked for is no move that can be made on the pile."""


class TooGreat(MarkError):
    """A mark above the last place would be needed."""


class Below(MarkError):
    """The answer would be below nought."""


class NoText(MarkError):
    """The text is not one that the program writes."""
