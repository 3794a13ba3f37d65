"""What monitors of both kinds do with the lines, floors and tables that they keep."""

from gatepairs.errors import GateFull, LateLine, LowerFloor
from gatepairs.extensions import is_not_lower

MOST_LINES = 40


def refuse_line(gate, lines, floor, time):
    """Raise LateLine or GateFull if a gate with these lines and this floor takes no line with this time."""
    if not is_not_lower(time, floor):
        raise LateLine(time)
    if len(lines) >= MOST_LINES:
        raise GateFull(gate)


def refuse_floor(floor, other):
    """Raise LowerFloor if a gate with this floor cannot get the other one, which is an integer."""
    if not is_not_lower(other, floor):
        raise LowerFloor(other)


def log_of(lines, floors):
    """A new log with these lines and floors, which are given by gate."""
    return list(lines["entries"]), list(lines["exits"]), floors["entries"], floors["exits"]


def with_item(table, key, value):
    """A copy of the table with this value for the key."""
    changed = {other: table[other] for other in table}
    changed[key] = value
    return changed


def copy_of_lists(table):
    """A copy of the table, the values of which are lists, that shares none of these lists."""
    return {key: list(table[key]) for key in table}
