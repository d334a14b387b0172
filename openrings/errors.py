"""The errors of the package: each one stands directly below RingError."""


class RingError(ValueError):
    """What all errors of the package have in common."""


class BadKind(RingError):
    """A value that is no kind of deed."""

    def __init__(self, kind):
        super().__init__("no kind of deed")
        self.kind = kind


class BadWay(RingError):
    """A value that is no way of keeping a table."""

    def __init__(self, way):
        super().__init__("no way of keeping a table")
        self.way = way


class BadLine(RingError):
    """The number of a line that has no form of a line in its place."""

    def __init__(self, line):
        super().__init__("no line of a code in its place")
        self.line = line


class Refused(RingError):
    """The number of a line that breaks a limit of a code."""

    def __init__(self, line):
        super().__init__("a line that the limits of a code refuse")
        self.line = line


class BadRing(RingError):
    """A value that is no ring, or not one that is asked for."""

    def __init__(self, ring):
        super().__init__("no ring that is right here")
        self.ring = ring


class BadHanded(RingError):
    """A value that cannot be handed to a deed."""

    def __init__(self, handed):
        super().__init__("nothing that can be handed here")
        self.handed = handed


class BadPromise(RingError):
    """A value that is no promise."""

    def __init__(self, promise):
        super().__init__("no promise")
        self.promise = promise


class NoLine(RingError):
    """A value that is no number of a line."""

    def __init__(self, line):
        super().__init__("no number of a line")
        self.line = line


class BadSize(RingError):
    """A value that is no right number."""

    def __init__(self, n):
        super().__init__("no right number")
        self.n = n


class BadName(RingError):
    """A key that is no name of a deed with a code of the way."""

    def __init__(self, name):
        super().__init__("no name with a code of the way")
        self.name = name


class NoDeed(RingError):
    """A value that is no name of a deed that is asked for."""

    def __init__(self, name):
        super().__init__("no name of a deed that is right here")
        self.name = name


class NothingToUndo(RingError):
    """Nothing is left that could be taken back."""

    def __init__(self):
        super().__init__("nothing to take back")


class TooMany(RingError):
    """More of something than there may be."""

    def __init__(self, what, many, most):
        super().__init__("more than there may be")
        self.what = what
        self.many = many
        self.most = most
