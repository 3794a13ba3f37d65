"""Worlds of a log, and excesses, which show that there is none."""

from gatepairs.errors import Contradiction
from gatepairs.lines import fits, must_lines
from gatepairs.matching import pair_musts, rivals
from gatepairs.nets import net_of, with_pair_apart, without_lines
from gatepairs.values import is_number_list, is_pair_list, is_tuple


def is_world(kinds, log, value):
    """True if the value, which may be any value, is a world of the log."""
    return is_world_without(kinds, log, [], [], value)


def is_world_without(kinds, log, ignored_entries, ignored_exits, value):
    """True if the value, which may be any value, is a world of the log without these lines."""
    entries, exits = log[0], log[1]
    if not is_pair_list(value, len(entries), len(exits)):
        return False
    if not all(fits(kinds, entries[pair[0]], exits[pair[1]]) for pair in value):
        return False
    return places_each_must(kinds, log, "entries", [pair[0] for pair in value] + ignored_entries) and places_each_must(
        kinds, log, "exits", [pair[1] for pair in value] + ignored_exits
    )


def places_each_must(kinds, log, gate, placed):
    """True if no line of the gate is placed twice and each must line is placed."""
    if len(set(placed)) < len(placed):
        return False
    return len(set(must_lines(kinds, log, gate)) - set(placed)) == 0


def is_excess(kinds, log, value):
    """True if the value, which may be any value, is an excess of the log."""
    return is_excess_of(net_of(kinds, log), value)


def is_excess_of(net, value):
    """True if the value, which may be any value, is an excess of the log with this net."""
    if not is_tuple(value, 2) or value[0] not in ("entries", "exits"):
        return False
    gate, numbers = value
    # An empty list fits no line at all, which is not fewer than none.
    return is_must_list(net, gate, numbers) and excess_size(net, gate, numbers) > 0


def is_must_list(net, gate, value):
    """True if the value, which may be any value, is an ascending list of must lines of the gate."""
    if not is_number_list(value, len(net.fit_lists[gate])):
        return False
    return len(set(value) - set(net.musts[gate])) == 0


def excess_size(net, gate, numbers):
    """By how many these lines are more than the lines of the other gate that fit at least one of them."""
    fit_lists = net.fit_lists[gate]
    return len(numbers) - len({other for number in numbers for other in fit_lists[number]})


def find_world(kinds, log):
    """Any world of the log. Raises Contradiction with an excess if there is none."""
    return net_and_world(kinds, log)[1]


def net_and_world(kinds, log):
    """A tuple of the net of the log and any world. Raises Contradiction with an excess if there is none."""
    net = net_of(kinds, log)
    world, excess = world_or_excess(net, [])
    if excess is not None:
        raise Contradiction(excess)
    return net, world


def world_or_excess(net, start):
    """A tuple (world, None), or (None, excess) if the net has no world. The search starts from pairs that may not fit.

    The fewer of these pairs have to be changed, the faster it is.
    """
    exit_of, entry_of = partner_lists(net, start)
    exit_of, entry_of, left_over = pair_musts(net.fit_lists["entries"], net.musts["entries"], exit_of, entry_of)
    if left_over:
        return None, excess_around(net, "entries", entry_of, left_over[:1])
    # The second round leaves each paired entry paired, so the must entries stay settled.
    entry_of, exit_of, left_over = pair_musts(net.fit_lists["exits"], net.musts["exits"], entry_of, exit_of)
    if left_over:
        return None, excess_around(net, "exits", exit_of, left_over[:1])
    return paired_lines(exit_of), None


def partner_lists(net, pairs):
    """A tuple of two lists: for each entry its exit, and for each exit its entry, by those of the pairs that fit."""
    exit_of = [None] * len(net.fit_lists["entries"])
    entry_of = [None] * len(net.fit_lists["exits"])
    for entry, leaving in pairs:
        if leaving in net.fit_lists["entries"][entry]:
            exit_of[entry] = leaving
            entry_of[leaving] = entry
    return exit_of, entry_of


def paired_lines(exit_of):
    """The ascending list of the pairs, where the exit of each entry, or None, is given."""
    return [(entry, exit_of[entry]) for entry in range(len(exit_of)) if exit_of[entry] is not None]


def excess_around(net, gate, holders, left_over):
    """An excess of the net with the must lines that are left over."""
    return gate, rivals(net.fit_lists[gate], net.musts[gate], holders, left_over)


def world_with_pair(net, start, pair):
    """A tuple (world, None) with a world with this pair, which fits, or (None, excess).

    The excess is one of the log without the two lines.
    """
    rest, excess = world_or_excess(without_lines(net, [pair[0]], [pair[1]]), start)
    if excess is not None:
        return None, excess
    return sorted(rest + [pair]), None


def world_without_pair(net, start, pair):
    """A tuple (world, None) with a world without this pair, or (None, excess).

    The excess is one of the log in which the two lines are regarded as not fitting.
    """
    return world_or_excess(with_pair_apart(net, pair), start)
