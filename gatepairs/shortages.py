"""Trusts of lines, and how many lines have to be ignored, at each threshold."""

from gatepairs.bestworlds import HIGHEST_TRUST, find_best_world, lack_lists, ranks_of
from gatepairs.nets import net_of
from gatepairs.values import is_integer, is_tuple
from gatepairs.worlds import excess_size


def is_trusts(log, value):
    """True if the value, which may be any value, is trusts of the log."""
    return is_tuple(value, 2) and is_trust_list(value[0], len(log[0])) and is_trust_list(value[1], len(log[1]))


def is_trust_list(value, size):
    """True if the value is a list of this many trusts."""
    return isinstance(value, list) and len(value) == size and all(is_threshold(item) for item in value)


def is_threshold(value):
    """True if the value is a trust or, what is the same, a threshold."""
    return is_integer(value, 1, HIGHEST_TRUST)


def lacks(kinds, log, trusts):
    """A tuple of two lists: the lacks of the entries and those of the exits at the thresholds from 1 to 9."""
    net, ranks = net_of(kinds, log), ranks_of(trusts)
    found = lack_lists(net, ranks, find_best_world(net, ranks, []))
    return found["entries"], found["exits"]


def shortage_size(kinds, log, gate, numbers):
    """The number of these lines of the gate minus the number of the lines of the other gate that fit any of them."""
    return excess_size(net_of(kinds, log), gate, numbers)
