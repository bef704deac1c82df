"""The errors of the package: one class for each kind of failure, each keeps its arguments as attributes."""


class InvalidMine(ValueError):
    """A value is no mine; index is that of the first wrong way, or None if more than a way is wrong."""

    def __init__(self, index):
        self.index = index


class InvalidFacts(ValueError):
    """A value is no tuple of facts; index is that of the first wrong fact, or None."""

    def __init__(self, index):
        self.index = index


class InvalidDoors(ValueError):
    """A value is no tuple of doors; index is that of the first wrong door, or None."""

    def __init__(self, index):
        self.index = index


class InvalidClaim(ValueError):
    """A value is no valid claim."""


class ParseError(ValueError):
    """A text is none that the package writes; line is the index of the first wrong line."""

    def __init__(self, line):
        self.line = line


class NotJoined(RuntimeError):
    """Some place of the mine cannot be reached from the inlet."""


class NotPlain(RuntimeError):
    """Some way of the mine can turn its direction."""


class Impossible(RuntimeError):
    """No state fits the facts."""


class CannotShut(RuntimeError):
    """The way cannot be shut."""

    def __init__(self, way):
        self.way = way


class CannotDig(RuntimeError):
    """No way can be dug between the pair."""

    def __init__(self, pair):
        self.pair = pair


class Refused(RuntimeError):
    """Several deeds were not done; index is that of the first wrong deed, reason the name of its error."""

    def __init__(self, index, reason):
        self.index = index
        self.reason = reason


class NothingDone(RuntimeError):
    """There is no deed that could be undone."""
