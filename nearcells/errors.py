"""The errors that the package raises."""


class CellError(ArithmeticError):
    """The base of all errors of the package."""


class InvalidSites(CellError):
    """A value is not sites; at is the index of the first wrong item, or -1."""

    def __init__(self, at):
        self.at = at


class InvalidTriangles(CellError):
    """A value is not a triangulation; at tells where it fails, or -1."""

    def __init__(self, at):
        self.at = at


class InvalidBound(CellError):
    """An argument is not valid; argument is its name."""

    def __init__(self, argument):
        self.argument = argument


class InvalidCall(CellError):
    """A deed cannot be done; call is the tuple that tells it."""

    def __init__(self, call):
        self.call = call


class NoCircle(CellError):
    """Three sites are on one line, or two of them are alike."""

    # Without a constructor of its own it would take any arguments.
    def __init__(self):
        pass


class LimitExceeded(CellError):
    """There is more than a function takes; limit is the most it takes."""

    def __init__(self, limit):
        self.limit = limit
