"""The errors of halfcuts, one class for each kind of failure."""


class CutError(ValueError):
    """What every error of halfcuts is; its attribute `value` tells what was wrong."""

    def __init__(self, value):
        super().__init__(f"{value!r}")
        self.value = value


class InvalidWord(CutError):
    """A string, the value, has another sign than 0 and 1."""


class InvalidMoment(CutError):
    """Head or ring of a moment, the value, is no word, or the ring is empty."""


class InvalidPairs(CutError):
    """The pair at an index, the value, holds no words; for None the pairs make up no edit."""


class InvalidNumber(CutError):
    """A number, the value, is too small or too large."""


class InvalidExponent(CutError):
    """An exponent, the value, is out of bounds for an edit that has no order."""


class NoOrder(CutError):
    """An edit has no order; the value is None."""


class NoLoop(CutError):
    """An edit is no loop; the value is None."""


class NoMark(CutError):
    """A clip has no mark with a name, the value."""


class NothingToUndo(CutError):
    """A clip has no call to take back; the value is 0."""


class Unreadable(CutError):
    """No edit or moment has a text, the value."""
