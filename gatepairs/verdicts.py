"""Verdicts: what holds of a pair or of a line in all worlds of a log, each with its evidence."""

from gatepairs.levels import sharp_levels
from gatepairs.lines import fits, may_be_open
from gatepairs.nets import net_of, with_pair_apart, without_line, without_lines
from gatepairs.values import is_tuple
from gatepairs.worlds import (
    is_excess_of,
    is_world,
    net_and_world,
    world_or_excess,
    world_with_pair,
    world_without_pair,
)


def verdict(kinds, log, entry_number, exit_number):
    """Any verdict on the pair. Raises Contradiction with an excess if the log is contradictory."""
    net, world = net_and_world(kinds, log)
    if exit_number not in net.fit_lists["entries"][entry_number]:
        return "impossible", world, None
    pair = (entry_number, exit_number)
    with_pair, excess = world_with_pair(net, world, pair)
    if excess is not None:
        return "impossible", world, excess
    without_pair, excess = world_without_pair(net, world, pair)
    if excess is not None:
        return "certain", world, excess
    return "undecided", with_pair, without_pair


def is_verdict(kinds, log, entry_number, exit_number, value):
    """True if the value, which may be any value, is a verdict on the pair."""
    if not is_tuple(value, 3) or not is_world(kinds, log, value[1]):
        return False
    word, world, evidence = value
    pair = (entry_number, exit_number)
    if word == "undecided":
        return pair in world and is_world(kinds, log, evidence) and pair not in evidence
    if word == "certain":
        return is_excess_of(with_pair_apart(net_of(kinds, log), pair), evidence)
    if word == "impossible":
        if not fits(kinds, log[0][entry_number], log[1][exit_number]):
            return evidence is None
        return is_excess_of(without_lines(net_of(kinds, log), [entry_number], [exit_number]), evidence)
    return False


def line_verdict(kinds, log, gate, number):
    """Any verdict on the line. Raises Contradiction with an excess if the log is contradictory."""
    net, world = net_and_world(kinds, log)
    if number in net.musts[gate]:
        return "paired", world, None
    # The line may be open, so a world of the log without it is a world of the log.
    without, excess = world_or_excess(without_line(net, gate, number), world)
    if excess is not None:
        return "paired", world, excess
    return "open", without


def is_line_verdict(kinds, log, gate, number, value):
    """True if the value, which may be any value, is a verdict on the line."""
    if is_tuple(value, 2):
        return value[0] == "open" and is_world(kinds, log, value[1]) and not has_line(value[1], gate, number)
    if not is_tuple(value, 3) or value[0] != "paired" or not is_world(kinds, log, value[1]):
        return False
    if not may_be_open(kinds, log, gate, number):
        return value[2] is None
    return is_excess_of(without_line(net_of(kinds, log), gate, number), value[2])


def has_line(world, gate, number):
    """True if the line occurs in a tuple of the world."""
    if gate == "entries":
        return any(pair[0] == number for pair in world)
    return any(pair[1] == number for pair in world)


def certain_pairs(kinds, log):
    """The ascending list of all certain pairs. Raises Contradiction with an excess if the log is contradictory."""
    net, world = net_and_world(kinds, log)
    return certain_pairs_of(net, world)


def certain_pairs_of(net, world):
    """The ascending list of all certain pairs of a net with this world."""
    entry_levels, exit_levels, outside = sharp_levels(net, world)
    levels = entry_levels + exit_levels + [outside]
    # A pair that nothing else shares its level with has nothing to be exchanged for.
    return [pair for pair in world if levels.count(entry_levels[pair[0]]) == 2]


def possible_pairs(kinds, log):
    """The ascending list of all possible pairs. Raises Contradiction with an excess if the log is contradictory."""
    net, world = net_and_world(kinds, log)
    return possible_pairs_of(net, world)


def possible_pairs_of(net, world):
    """The ascending list of all possible pairs of a net with this world."""
    entry_levels, exit_levels, _ = sharp_levels(net, world)
    fit_lists = net.fit_lists["entries"]
    return [
        (entry, leaving)
        for entry in range(len(fit_lists))
        for leaving in fit_lists[entry]
        if entry_levels[entry] == exit_levels[leaving]
    ]
