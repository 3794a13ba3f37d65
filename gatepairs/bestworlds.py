"""Best worlds of a net: at each gate, as few as possible of the must lines are ignored, and of those from each rank on.

The rank of a line is twice its trust. One more lets it go ahead of the other lines of its trust if this costs nothing:
a world that is best for such ranks is best for the trusts, too.
"""

from gatepairs.arrows import turned
from gatepairs.matching import pair_musts
from gatepairs.nets import Net
from gatepairs.worlds import paired_lines, partner_lists

HIGHEST_TRUST = 9


def ranks_of(trusts):
    """The ranks of the lines of each gate."""
    return {"entries": [2 * trust for trust in trusts[0]], "exits": [2 * trust for trust in trusts[1]]}


def lines_from(net, ranks, gate, least):
    """The ascending list of the must lines of the gate from this rank on."""
    return [number for number in net.musts[gate] if ranks[gate][number] >= least]


def lines_that_count(net, ranks, gate, threshold):
    """The ascending list of the lines of the gate that count at the threshold."""
    return lines_from(net, ranks, gate, 2 * threshold)


def find_best_world(net, ranks, start):
    """Any best world of the net. The search starts from pairs that may not fit.

    The fewer of these pairs have to be changed, the faster it is.
    """
    exit_of, entry_of = partner_lists(net, start)
    exit_of, entry_of = pair_by_rank(net, ranks, "entries", exit_of, entry_of)
    # The second round leaves each paired entry paired, so what is ignored at one gate costs nothing at the other one.
    entry_of, exit_of = pair_by_rank(net, ranks, "exits", entry_of, exit_of)
    return paired_lines(exit_of)


def pair_by_rank(net, ranks, gate, partners, holders):
    """Give as many as possible of the must lines of the gate a partner, and of those from each rank on.

    Partners are those of the lines of this gate, holders those of the lines of the other gate. Returns new lists.
    """
    # Lines of lower ranks take no partner away from the lines from this rank on, and never set one free for them.
    for least in reversed(sorted({ranks[gate][number] for number in net.musts[gate]})):
        partners, holders, _ = pair_musts(net.fit_lists[gate], lines_from(net, ranks, gate, least), partners, holders)
    return partners, holders


def ignored_lines(net, gate, world):
    """The ascending list of the lines of the gate that the loose world ignores."""
    exit_of, entry_of = partner_lists(net, world)
    partners = exit_of if gate == "entries" else entry_of
    return [number for number in net.musts[gate] if partners[number] is None]


def ignored_from(net, ranks, gate, world, least):
    """The ascending list of the lines of the gate from this rank on that the loose world ignores."""
    return [number for number in ignored_lines(net, gate, world) if ranks[gate][number] >= least]


def lack_lists(net, ranks, world):
    """For each gate the list of its lacks at all thresholds, where the world is a best one."""
    return {gate: ignored_counts(ranks, gate, ignored_lines(net, gate, world)) for gate in ("entries", "exits")}


def ignored_counts(ranks, gate, ignored):
    """For each threshold, how many of these must lines of the gate count there."""
    return [
        len([number for number in ignored if ranks[gate][number] >= 2 * threshold])
        for threshold in range(1, HIGHEST_TRUST + 1)
    ]


def with_stand_ins(net, ranks, world):
    """A net and a world of it, from a net and a best world: what all best worlds have in common, all its worlds have.

    For each ignored line, one more line comes to the other gate. It has to be paired and fits just the must lines of
    the same rank, so that in each world of the new net as many of these are ignored as in a best world.
    """
    first_entry, first_exit = len(net.fit_lists["entries"]), len(net.fit_lists["exits"])
    ignored_entries = ignored_lines(net, "entries", world)
    ignored_exits = ignored_lines(net, "exits", world)
    fit_lists = list(net.fit_lists["entries"])
    for place in range(len(ignored_entries)):
        for entry in lines_like(net, ranks, "entries", ignored_entries[place]):
            fit_lists[entry] = fit_lists[entry] + [first_exit + place]
    fit_lists = fit_lists + [lines_like(net, ranks, "exits", leaving) for leaving in ignored_exits]
    new_entries = list(range(first_entry, first_entry + len(ignored_exits)))
    new_exits = list(range(first_exit, first_exit + len(ignored_entries)))
    wider = Net(
        {"entries": fit_lists, "exits": turned(fit_lists, first_exit + len(new_exits))},
        {"entries": net.musts["entries"] + new_entries, "exits": net.musts["exits"] + new_exits},
    )
    return wider, sorted(world + list(zip(ignored_entries, new_exits)) + list(zip(new_entries, ignored_exits)))


def lines_like(net, ranks, gate, number):
    """The ascending list of the must lines of the gate that have the same rank as this one."""
    return [other for other in net.musts[gate] if ranks[gate][other] == ranks[gate][number]]
