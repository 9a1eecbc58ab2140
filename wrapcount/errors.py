"""The exceptions of the package.

No message shows a field: a field may be a value of any kind, and such a value
may have more parts than can be written out.
"""


class WrapcountError(ValueError):
    """The base class of all exceptions of the package."""


class InvalidNetwork(WrapcountError):
    """A value is not a network."""

    def __init__(self, part):
        super().__init__("the value is not a network")
        self.part = part


class InvalidPipe(WrapcountError):
    """A pipe of a network is invalid, or a value is not the index of a pipe."""

    def __init__(self, index):
        super().__init__("the pipe is invalid, or there is no such pipe")
        self.index = index


class InvalidPlaces(WrapcountError):
    """A value is not a set of places."""

    def __init__(self, value):
        super().__init__("the value is not a set of places")
        self.value = value


class InvalidOrder(WrapcountError):
    """A value is not an order of the places."""

    def __init__(self, value):
        super().__init__("the value is not an order of the places")
        self.value = value


class InvalidFlow(WrapcountError):
    """A value is not a flow."""

    def __init__(self, part, number=None):
        super().__init__("the value is not a flow")
        self.part = part
        self.number = number


class InvalidAnswer(WrapcountError):
    """An answer is not correct."""

    def __init__(self, part):
        super().__init__("the answer is not correct")
        self.part = part


class GroupSum(WrapcountError):
    """A network has a group whose sum is not 0."""

    def __init__(self, group):
        super().__init__("the sum of a group is not 0")
        self.group = group


class NoCount(WrapcountError):
    """A network has a pipe without bounds."""

    def __init__(self, pipe):
        super().__init__("a pipe has no bounds")
        self.pipe = pipe


class NoFlow(WrapcountError):
    """A network has no flow."""

    def __init__(self, reason):
        super().__init__("the network has no flow")
        self.reason = reason


class NetworkMismatch(WrapcountError):
    """Two networks cannot be added."""

    def __init__(self, index=None):
        super().__init__("the networks cannot be added")
        self.index = index


class InvalidWeights(WrapcountError):
    """A value is not a tuple of weights, or of costs."""

    def __init__(self, position=None):
        super().__init__("the value is not a tuple of weights or of costs")
        self.position = position


class InvalidPipes(WrapcountError):
    """A value is not a set of pipes, or not a key."""

    def __init__(self, value):
        super().__init__("the value is not a set of pipes, or not a key")
        self.value = value


class InvalidRank(WrapcountError):
    """A value is not the rank of a flow."""

    def __init__(self, value):
        super().__init__("the value is not the rank of a flow")
        self.value = value


class InvalidPlan(WrapcountError):
    """A value is not a plan."""

    def __init__(self, part, index=None):
        super().__init__("the value is not a plan")
        self.part = part
        self.index = index


class InvalidReadings(WrapcountError):
    """A value is not a tuple of rounds for the plan."""

    def __init__(self, index=None, pipe=None):
        super().__init__("the value is not a tuple of rounds for the plan")
        self.index = index
        self.pipe = pipe


class InvalidLevels(WrapcountError):
    """A value is not a pair of levels for the plan."""

    def __init__(self, part, tank=None):
        super().__init__("the value is not a pair of levels for the plan")
        self.part = part
        self.tank = tank


class InvalidMeter(WrapcountError):
    """A value is not a meter."""

    def __init__(self, value):
        super().__init__("the value is not a meter")
        self.value = value


class LimitExceeded(WrapcountError):
    """The arguments exceed a limit."""

    def __init__(self, limit):
        super().__init__("the arguments exceed a limit")
        self.limit = limit


class NothingToUndo(WrapcountError):
    """There is no recorded change to undo."""

    def __init__(self):
        super().__init__("there is no recorded change to undo")


class ParseError(WrapcountError):
    """A text does not represent a record."""

    def __init__(self, line, word):
        super().__init__("the text does not represent a record")
        self.line = line
        self.word = word
