"""Level tables: numbers on the lines that show at once which pairs are in some world, and which lines may stay open."""

from gatepairs.arrows import component_numbers
from gatepairs.nets import net_of
from gatepairs.values import is_integer, is_tuple
from gatepairs.worlds import is_world, net_and_world, partner_lists

HIGHEST = 10 ** 6


def level_table(kinds, log):
    """Any sharp level table of the log. Raises Contradiction with an excess if there is none."""
    net, world = net_and_world(kinds, log)
    entry_levels, exit_levels, outside = sharp_levels(net, world)
    return world, entry_levels, exit_levels, outside


def sharp_levels(net, world):
    """A tuple (entry_levels, exit_levels, outside) that makes the world of the net a sharp level table."""
    # Lines on one level are those that can be exchanged with each other: a circle of arrows is a way to go from one
    # world to another one.
    entry_end = len(net.fit_lists["entries"])
    exit_end = entry_end + len(net.fit_lists["exits"])
    numbers = component_numbers(level_arrows(net, world))
    return numbers[:entry_end], numbers[entry_end:exit_end], numbers[exit_end]


def level_arrows(net, world):
    """The arrows from the entries, then from the exits, then from the outside, to what may be on no higher level."""
    exit_of, entry_of = partner_lists(net, world)
    first_exit = len(exit_of)
    outside = first_exit + len(entry_of)
    arrows = [[first_exit + leaving for leaving in others] for others in net.fit_lists["entries"]]
    for entry in range(len(exit_of)):
        if entry not in net.musts["entries"]:
            arrows[entry].append(outside)
    arrows = arrows + [[outside if entry is None else entry] for entry in entry_of]
    below_outside = [first_exit + leaving for leaving in range(len(entry_of)) if leaving not in net.musts["exits"]]
    open_entries = [entry for entry in range(len(exit_of)) if exit_of[entry] is None]
    return arrows + [below_outside + open_entries]


def is_level_table(kinds, log, value):
    """True if the value, which may be any value, is a level table of the log."""
    return has_table_form(kinds, log, value) and has_table_levels(net_of(kinds, log), value)


def has_table_form(kinds, log, value):
    """True if the value is a tuple of a world of the log, a level for each entry and for each exit, and a level."""
    return (
        is_tuple(value, 4)
        and is_world(kinds, log, value[0])
        and is_level_list(value[1], len(log[0]))
        and is_level_list(value[2], len(log[1]))
        and is_level(value[3])
    )


def is_level_list(value, size):
    """True if the value is a list of this many levels."""
    return isinstance(value, list) and len(value) == size and all(is_level(item) for item in value)


def is_level(value):
    """True if the value is a level."""
    return is_integer(value, 0, HIGHEST)


def has_table_levels(net, table):
    """True if no arrow of the net leads to a higher level of the table, which has the form of one."""
    levels = table[1] + table[2] + [table[3]]
    return all(levels[node] >= levels[below] for node, below in level_steps(net, table[0]))


def level_steps(net, world):
    """The list of all arrows, as tuples of the node from which it leads and the one to which it leads."""
    arrows = level_arrows(net, world)
    return [(node, below) for node in range(len(arrows)) for below in arrows[node]]


def is_sharp(kinds, log, value):
    """True if the value, which may be any value, is a sharp level table of the log."""
    if not has_table_form(kinds, log, value):
        return False
    net = net_of(kinds, log)
    return has_table_levels(net, value) and has_sharp_levels(net, value)


def has_sharp_levels(net, table):
    """True if what an arrow joins has equal levels in the level table only if it has equal sharp levels, too."""
    levels = table[1] + table[2] + [table[3]]
    sharp_entries, sharp_exits, sharp_outside = sharp_levels(net, table[0])
    sharp = sharp_entries + sharp_exits + [sharp_outside]
    steps = level_steps(net, table[0])
    return all(levels[node] != levels[below] or sharp[node] == sharp[below] for node, below in steps)
