"""The refusals: one class for each, all of them straight under WordError."""


class WordError(ValueError):
    """Any refusal of this package."""


class NoFit(WordError):
    """A worth that the told number of words or places does not have."""


class NoText(WordError):
    """A text that is no written number."""


class NoCell(WordError):
    """Something that is no cell."""


class NoWord(WordError):
    """Something that is no word of the machine's width."""


class NoRow(WordError):
    """Something that is no row."""


class NoTelling(WordError):
    """Something that is no telling, or one that can't be unrolled."""


class NoDeed(WordError):
    """Something that is no deed."""


class NoQuotient(WordError):
    """A quotient by nought."""


class TooMany(WordError):
    """More rows than a small machine is handed."""


class NoLine(WordError):
    """A text that is no line of the desk's."""


class NoName(WordError):
    """A name that stands for nothing."""


class NoWidth(WordError):
    """A width, a number of words or a number of places out of bounds."""


class NoPair(WordError):
    """Two numbers that don't go together."""


class NoUndo(WordError):
    """No deed to undo or to do again."""
