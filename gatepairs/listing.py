"""The list of all worlds, and worlds in which no vehicle overtakes another one."""

from gatepairs.errors import TooMany
from gatepairs.levels import sharp_levels
from gatepairs.nets import without_lines
from gatepairs.worlds import net_and_world, world_or_excess


def all_worlds(kinds, log, *, limit=1000):
    """The list of all worlds, in ascending order.

    Raises Contradiction with an excess if there is none, and TooMany if there are more worlds than the limit.
    """
    net, world = net_and_world(kinds, log)
    # Each item that waits stands for at least one world, and no two items for the same one, so there are never more of
    # them than worlds.
    found = []
    waiting = [([], net, world, None, None)]
    while waiting:
        if len(found) + len(waiting) > limit:
            raise TooMany(limit)
        chosen, net, world, entry, leaving = waiting.pop()
        if entry is not None:
            chosen, net, world = with_choice(chosen, net, world, entry, leaving)
        entry, choices = first_choice(net, world)
        if entry is None:
            found.append(sorted(chosen + world))
        waiting.extend([(chosen, net, world, entry, choice) for choice in choices])
    return sorted(found)


def with_choice(chosen, net, world, entry, leaving):
    """What is chosen, the net of the lines that are left and a world of it, if the entry gets this exit, or None."""
    if leaving is None:
        rest = without_lines(net, [entry], [])
    else:
        rest = without_lines(net, [entry], [leaving])
        chosen = chosen + [(entry, leaving)]
    # The choice is one of a world, so there is no excess.
    rest_world, _ = world_or_excess(rest, world)
    return chosen, rest, rest_world


def first_choice(net, world):
    """The first entry that has not the same part in all worlds of the net, and the list of its choices.

    A choice is an exit or, if the entry may stay open, None. If there is no such entry: None and an empty list.
    """
    entry_levels, exit_levels, outside = sharp_levels(net, world)
    fit_lists = net.fit_lists["entries"]
    for entry in range(len(fit_lists)):
        choices = [leaving for leaving in fit_lists[entry] if exit_levels[leaving] == entry_levels[entry]]
        if entry_levels[entry] == outside and entry not in net.musts["entries"]:
            choices.append(None)
        if len(choices) > 1:
            return entry, choices
    return None, []


def is_ordered(log, world):
    """True if the world of the log is ordered: no vehicle overtakes another one."""
    times = [(log[0][entry][0], log[1][leaving][0]) for entry, leaving in world]
    return not any(first[0] < second[0] and first[1] > second[1] for first in times for second in times)


def ordered_world(log, world):
    """Any ordered world with the same entries and the same exits as the world.

    Each line of the log can have one and the same kind only, and no line has a plate.
    """
    # The first entry with the first exit, the second one with the second one, and so on: these fit, too, because all
    # vehicles can need just the same travel times.
    entries = sorted([(log[0][pair[0]][0], pair[0]) for pair in world])
    exits = sorted([(log[1][pair[1]][0], pair[1]) for pair in world])
    return sorted([(first[1], second[1]) for first, second in zip(entries, exits)])
