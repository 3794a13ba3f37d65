"""Kinds tables, lines and logs: which lines fit, and which may be open."""

from gatepairs.values import is_integer, is_tuple, is_word

LATEST = 10 ** 9
LONGEST_TRAVEL = 10 ** 6
MOST_KINDS = 8
LETTERS = "abcdefghijklmnopqrstuvwxyz"
PLATE_SIGNS = "ABCDEFGHIJKLMNOPQRSTUVWXYZ0123456789"


def is_kinds(value):
    """True if the value, which may be any value, is a kinds table."""
    return (
        isinstance(value, dict)
        and 1 <= len(value) <= MOST_KINDS
        and all(is_word(name, LETTERS) and is_travel(value[name]) for name in value)
    )


def is_travel(value):
    """True if the value is a tuple of a shortest and a longest travel time."""
    return (
        is_tuple(value, 2)
        and is_integer(value[0], 0, LONGEST_TRAVEL)
        and is_integer(value[1], value[0], LONGEST_TRAVEL)
    )


def is_line(kinds, value):
    """True if the value, which may be any value, is a line."""
    return (
        is_tuple(value, 3)
        and is_integer(value[0], 0, LATEST)
        and is_line_kind(kinds, value[1])
        and (value[2] is None or is_word(value[2], PLATE_SIGNS))
    )


def is_line_kind(kinds, value):
    """True if the value is a name of the kinds table or None."""
    # A list or a dict cannot be looked up in a dict, so the table is asked for strings only.
    return value is None or (isinstance(value, str) and value in kinds)


def is_log(kinds, value):
    """True if the value, which may be any value, is a log."""
    return (
        is_tuple(value, 4)
        and is_line_list(kinds, value[0])
        and is_line_list(kinds, value[1])
        and is_floor(value[2])
        and is_floor(value[3])
    )


def is_line_list(kinds, value):
    """True if the value is a list of lines."""
    return isinstance(value, list) and all(is_line(kinds, item) for item in value)


def is_floor(value):
    """True if the value is a floor."""
    return value == "closed" or is_integer(value, 0, LATEST)


def fits(kinds, entry_line, exit_line):
    """True if the two lines fit."""
    travel = exit_line[0] - entry_line[0]
    return plates_agree(entry_line[2], exit_line[2]) and any(
        kinds[kind][0] <= travel <= kinds[kind][1] for kind in shared_kinds(kinds, entry_line, exit_line)
    )


def plates_agree(first, second):
    """True if the plates are equal or at least one of them is None."""
    return first is None or second is None or first == second


def line_kinds(kinds, line):
    """The list of the kinds that the line can have."""
    if line[1] is None:
        return list(kinds)
    return [line[1]]


def shared_kinds(kinds, first, second):
    """The list of the kinds that both lines can have."""
    others = line_kinds(kinds, second)
    return [kind for kind in line_kinds(kinds, first) if kind in others]


def may_be_open(kinds, log, gate, number):
    """True if the line with this number may be open."""
    if gate == "entries":
        return entry_may_be_open(kinds, log[0][number], log[3])
    return exit_may_be_open(kinds, log[1][number], log[2])


def entry_may_be_open(kinds, line, exit_floor):
    """True if the exit of this entry may be a passage that is not logged yet."""
    if exit_floor == "closed":
        return False
    return any(
        max(exit_floor, line[0] + kinds[kind][0]) <= min(line[0] + kinds[kind][1], LATEST)
        for kind in line_kinds(kinds, line)
    )


def exit_may_be_open(kinds, line, entry_floor):
    """True if the entry of this exit may be a passage that is not logged yet."""
    if entry_floor == "closed":
        return False
    return any(line[0] - kinds[kind][0] >= entry_floor for kind in line_kinds(kinds, line))


def must_lines(kinds, log, gate):
    """The ascending list of the numbers of the must lines of the gate."""
    many = len(gate_lines(log, gate))
    return [number for number in range(many) if not may_be_open(kinds, log, gate, number)]


def gate_lines(log, gate):
    """The list of the lines of the gate."""
    if gate == "entries":
        return log[0]
    return log[1]
