"""The errors of the package.

An error only keeps the values that it is given, and looks at none of them: they may be of any kind.
"""


class TrailError(ValueError):
    """The base of all errors of the package."""


class UnknownGateway(TrailError):
    """The world has no gateway with this name."""

    def __init__(self, name):
        self.name = name


class BadStep(TrailError):
    """This is no step of the world."""

    def __init__(self, step):
        self.step = step


class NoEntry(TrailError):
    """The machine has no such entry now."""

    def __init__(self, entry):
        self.entry = entry


class NotNeeded(TrailError):
    """This is no needed entry of the machine."""

    def __init__(self, entry):
        self.entry = entry


class HasRevoke(TrailError):
    """The program has a revoke step."""


class Unnoticed(TrailError):
    """No program notices that the gateways of the world wrap."""


class BadRegions(TrailError):
    """These cannot be the regions of a world."""

    def __init__(self, regions):
        self.regions = regions


class BadGateway(TrailError):
    """These cannot be the parts of a gateway between the regions."""

    def __init__(self, name, members, kind):
        self.name = name
        self.members = members
        self.kind = kind


class TakenGateway(TrailError):
    """There is a gateway with this name already."""

    def __init__(self, name):
        self.name = name


class TooMany(TrailError):
    """The world would have this many gateways, more than it can have."""

    def __init__(self, count):
        self.count = count


class ClosesCycle(TrailError):
    """A wrapping gateway would be noticed, by this cycle."""

    def __init__(self, cycle):
        self.cycle = cycle


class NothingDone(TrailError):
    """There is nothing to take back."""


class BadMark(TrailError):
    """This is no number of calls to which can be taken back."""

    def __init__(self, mark):
        self.mark = mark


class BadText(TrailError):
    """The line with this index cannot stand there in such a text."""

    def __init__(self, line):
        self.line = line


class BadLine(TrailError):
    """A desk cannot be told this line."""

    def __init__(self, line):
        self.line = line
