"""The errors of the package.

Their messages do not show the values that they carry, because these may be of any kind and any length.
"""


class GateError(ValueError):
    """The base class of all errors of the package."""


class Contradiction(GateError):
    """The log has no world, as the excess shows."""

    def __init__(self, excess):
        super().__init__("the log has no world")
        self.excess = excess


class LateLine(GateError):
    """The gate is closed, or its floor is above the time of the line."""

    def __init__(self, time):
        super().__init__("the gate is closed or its floor is above the time")
        self.time = time


class LowerFloor(GateError):
    """The gate is closed, or its floor is above the new one."""

    def __init__(self, floor):
        super().__init__("the gate is closed or its floor is above the new one")
        self.floor = floor


class GateFull(GateError):
    """No more lines of the gate can be kept."""

    def __init__(self, gate):
        super().__init__("no more lines of the gate can be kept")
        self.gate = gate


class UnknownLine(GateError):
    """No line with the number is kept."""

    def __init__(self, number):
        super().__init__("no line with this number is kept")
        self.number = number


class TooMany(GateError):
    """There are more worlds than the limit."""

    def __init__(self, limit):
        super().__init__("there are more worlds than the limit")
        self.limit = limit


class InvalidText(GateError):
    """The text is no written form; the row is the number of its first wrong row."""

    def __init__(self, row):
        super().__init__("the text is no written form")
        self.row = row


class InvalidRow(GateError):
    """The row has none of the forms that a desk answers."""

    def __init__(self, row):
        super().__init__("the row has none of the known forms")
        self.row = row


class UnknownMonitor(GateError):
    """No monitor is kept under the name."""

    def __init__(self, name):
        super().__init__("no monitor is kept under this name")
        self.name = name
