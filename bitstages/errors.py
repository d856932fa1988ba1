"""The errors of the package."""


class StageError(ValueError):
    """What every error of the package is."""


class InvalidBits(StageError):
    """A number of bits is no integer from 1 to 60."""


class InvalidMapping(StageError):
    """A value is no mapping; index is that of the first wrong row, or None."""

    def __init__(self, index):
        super().__init__(f"no mapping, wrong at {index}")
        self.index = index


class InvalidPlace(StageError):
    """A value is no place."""


class InvalidMasks(StageError):
    """A value is no list of masks; index is that of the first wrong item, or None."""

    def __init__(self, index):
        super().__init__(f"no list of masks, wrong at {index}")
        self.index = index


class InvalidValues(StageError):
    """A value is no list of values of masks; index is that of the first wrong item, or None."""

    def __init__(self, index):
        super().__init__(f"no list of values, wrong at {index}")
        self.index = index


class InvalidStage(StageError):
    """A value is no stage."""


class InvalidRun(StageError):
    """A value is no run; index is that of the first wrong item, or None."""

    def __init__(self, index):
        super().__init__(f"no run, wrong at {index}")
        self.index = index


class InvalidOrder(StageError):
    """A value is no order."""


class InvalidWays(StageError):
    """A value is no list of ways; index is that of the first wrong item, or None."""

    def __init__(self, index):
        super().__init__(f"no list of ways, wrong at {index}")
        self.index = index


class InvalidNumber(StageError):
    """A value is no integer, or is out of its range."""


class InvalidCommand(StageError):
    """A value is no command of the console."""


class InvalidText(StageError):
    """A value is no such text; word is the number of the first wrong word, or None."""

    def __init__(self, word):
        super().__init__(f"no such text, wrong at word {word}")
        self.word = word


class UnlikeBits(StageError):
    """Two things have not as many bits."""


class TooLarge(StageError):
    """There are more bits than limit."""

    def __init__(self, limit):
        super().__init__(f"more bits than {limit}")
        self.limit = limit


class Impossible(StageError):
    """Nothing agrees with what was seen."""


class OutOfTurn(StageError):
    """A stage came that is not at the next bit, which is bit."""

    def __init__(self, bit):
        super().__init__(f"the next bit is {bit}")
        self.bit = bit


class Refused(StageError):
    """A stage would be one too many; count is the number that there would be."""

    def __init__(self, count):
        super().__init__(f"there would be {count} stages that are not idle")
        self.count = count


class NothingToUndo(StageError):
    """No call is left to be reverted."""
