"""Shortages as evidence: lists of must lines that lack partners, so that some of them are ignored in each loose world.

Lacks are given by gate, as lack_lists in gatepairs.bestworlds returns them.
"""

from gatepairs.bestworlds import HIGHEST_TRUST, ignored_from, lack_lists, lines_from, lines_that_count
from gatepairs.matching import rivals
from gatepairs.shortages import is_threshold
from gatepairs.values import is_number_list, is_tuple
from gatepairs.worlds import excess_size, partner_lists


def least_shortage(net, ranks, world, gate, least):
    """A list of lines of the gate from this rank on, of the size that this best world ignores of such lines.

    Its lines are in each such list of this size.
    """
    exit_of, entry_of = partner_lists(net, world)
    holders = entry_of if gate == "entries" else exit_of
    ignored = ignored_from(net, ranks, gate, world, least)
    return rivals(net.fit_lists[gate], lines_from(net, ranks, gate, least), holders, ignored)


def all_shortages(net, ranks, world, gate):
    """For each threshold a shortage of the gate whose size is the lack there, where the world is a best one."""
    return [least_shortage(net, ranks, world, gate, 2 * threshold) for threshold in range(1, HIGHEST_TRUST + 1)]


def greater_shortage(net, ranks, world, lacks):
    """A tuple (gate, threshold, shortage) of a shortage whose size is greater than the lack there, or None.

    The world is a best one of the net, the lacks are those of another net. If the answer is None, the net has no
    greater lack than the other one.
    """
    own = lack_lists(net, ranks, world)
    for gate in ("entries", "exits"):
        for threshold in range(1, HIGHEST_TRUST + 1):
            if own[gate][threshold - 1] > lacks[gate][threshold - 1]:
                return gate, threshold, least_shortage(net, ranks, world, gate, 2 * threshold)
    return None


def is_greater_shortage(net, ranks, lacks, value):
    """True if the value, which may be any value, is a tuple as greater_shortage returns it."""
    if not is_tuple(value, 3) or value[0] not in ("entries", "exits") or not is_threshold(value[1]):
        return False
    gate, threshold, numbers = value
    if not is_shortage(net, ranks, gate, threshold, numbers):
        return False
    return excess_size(net, gate, numbers) > lacks[gate][threshold - 1]


def is_shortage(net, ranks, gate, threshold, value):
    """True if the value, which may be any value, is a shortage of the gate at the threshold."""
    return is_list_of(net, gate, value, lines_that_count(net, ranks, gate, threshold))


def is_list_of(net, gate, value, numbers):
    """True if the value, which may be any value, is an ascending list of some of these lines of the gate."""
    return is_number_list(value, len(net.fit_lists[gate])) and all(number in numbers for number in value)
