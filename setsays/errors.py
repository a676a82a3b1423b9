"""The refusals."""


class SayError(ValueError):
    """Any refusal."""


class NoText(SayError):
    """A text that is none of a saying."""


class NoFrame(SayError):
    """What is no frame."""


class NoSaying(SayError):
    """What is no saying that is let in the frame."""


class NoRow(SayError):
    """What is no row of the frame, or none that the machine takes."""


class NoTree(SayError):
    """What is no tree of the frame."""


class NoWidth(SayError):
    """Tracks that aren't as many, or a track that can't be had."""


class NoNumber(SayError):
    """What is no length, or no number of a row."""


class TooGreat(SayError):
    """A machine or a tree that would grow too great."""


class NoLine(SayError):
    """A line that asks nothing known."""
