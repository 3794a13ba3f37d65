"""Repairs: as few lines as possible are ignored, so that the rest of a log has a world."""

from gatepairs.matching import pair_musts, rivals
from gatepairs.nets import net_of
from gatepairs.values import is_number_list, is_tuple
from gatepairs.worlds import excess_size, is_must_list, is_world_without, paired_lines


def repair(kinds, log):
    """Any repair of the log."""
    net = net_of(kinds, log)
    exit_of = [None] * len(log[0])
    entry_of = [None] * len(log[1])
    exit_of, entry_of, ignored_entries = pair_musts(net.fit_lists["entries"], net.musts["entries"], exit_of, entry_of)
    entries_excess = rivals(net.fit_lists["entries"], net.musts["entries"], entry_of, ignored_entries)
    # The second round leaves each paired entry paired, so what is ignored at one gate costs nothing at the other one.
    entry_of, exit_of, ignored_exits = pair_musts(net.fit_lists["exits"], net.musts["exits"], entry_of, exit_of)
    exits_excess = rivals(net.fit_lists["exits"], net.musts["exits"], exit_of, ignored_exits)
    return ignored_entries, ignored_exits, paired_lines(exit_of), entries_excess, exits_excess


def is_repair(kinds, log, value):
    """True if the value, which may be any value, is a repair of the log."""
    if not is_tuple(value, 5):
        return False
    ignored_entries, ignored_exits, world, entries_excess, exits_excess = value
    if not is_number_list(ignored_entries, len(log[0])) or not is_number_list(ignored_exits, len(log[1])):
        return False
    if not is_world_without(kinds, log, ignored_entries, ignored_exits, world):
        return False
    net = net_of(kinds, log)
    return has_size(net, "entries", entries_excess, len(ignored_entries)) and has_size(
        net, "exits", exits_excess, len(ignored_exits)
    )


def has_size(net, gate, value, size):
    """True if the value is an ascending list of must lines, more by this size than the lines that fit any of them."""
    return is_must_list(net, gate, value) and excess_size(net, gate, value) == size
