"""Graded repairs: lines are ignored so that at no threshold, and at no gate, fewer of them can be."""

from gatepairs.bestworlds import (
    HIGHEST_TRUST,
    find_best_world,
    ignored_counts,
    ignored_lines,
    lack_lists,
    ranks_of,
)
from gatepairs.evidence import all_shortages, is_shortage
from gatepairs.lines import fits
from gatepairs.nets import net_of
from gatepairs.values import is_number_list, is_pair_list, is_tuple
from gatepairs.worlds import excess_size


def graded_repair(kinds, log, trusts):
    """Any graded repair of the log."""
    net, ranks = net_of(kinds, log), ranks_of(trusts)
    return graded_repair_of(net, ranks, find_best_world(net, ranks, []))


def graded_repair_of(net, ranks, world):
    """The graded repair with this best world."""
    return (
        ignored_lines(net, "entries", world),
        ignored_lines(net, "exits", world),
        list(world),
        all_shortages(net, ranks, world, "entries"),
        all_shortages(net, ranks, world, "exits"),
    )


def is_graded_repair(kinds, log, trusts, value):
    """True if the value, which may be any value, is a graded repair of the log."""
    if not is_tuple(value, 5) or not is_loose_world(kinds, log, value[2]):
        return False
    net, ranks = net_of(kinds, log), ranks_of(trusts)
    # Shortages of the sizes of what is ignored show that the world is a best one.
    return ignores_by_need(net, ranks, "entries", value[2], value[0], value[3]) and ignores_by_need(
        net, ranks, "exits", value[2], value[1], value[4]
    )


def ignores_by_need(net, ranks, gate, world, ignored, shortages):
    """True if the loose world ignores just these lines of the gate, and the shortages show that it has to.

    The lines and the shortages may be any values.
    """
    if not is_number_list(ignored, len(net.fit_lists[gate])) or ignored != ignored_lines(net, gate, world):
        return False
    if not isinstance(shortages, list) or len(shortages) != HIGHEST_TRUST:
        return False
    counts = ignored_counts(ranks, gate, ignored)
    return all(
        is_shortage(net, ranks, gate, place + 1, shortages[place])
        and excess_size(net, gate, shortages[place]) == counts[place]
        for place in range(HIGHEST_TRUST)
    )


def is_loose_world(kinds, log, value):
    """True if the value, which may be any value, is a loose world of the log."""
    entries, exits = log[0], log[1]
    if not is_pair_list(value, len(entries), len(exits)):
        return False
    if len({pair[0] for pair in value}) < len(value) or len({pair[1] for pair in value}) < len(value):
        return False
    return all(fits(kinds, entries[pair[0]], exits[pair[1]]) for pair in value)


def is_best_world(kinds, log, trusts, value):
    """True if the value, which may be any value, is a best world of the log."""
    if not is_loose_world(kinds, log, value):
        return False
    net, ranks = net_of(kinds, log), ranks_of(trusts)
    return lack_lists(net, ranks, value) == lack_lists(net, ranks, find_best_world(net, ranks, value))
