"""What matters of a log for its worlds, on plain numbers: which lines fit, and which lines have to be paired."""

from gatepairs.arrows import turned
from gatepairs.lines import fits, line_kinds, must_lines


class Net:
    """For each gate: for each line the lines of the other gate that fit it, and the must lines. All lists ascend."""

    def __init__(self, fit_lists, musts):
        self.fit_lists = fit_lists
        self.musts = musts


def net_of(kinds, log):
    """The net of the log."""
    fit_lists = [fitting_exits(kinds, line, log[1]) for line in log[0]]
    return Net(
        {"entries": fit_lists, "exits": turned(fit_lists, len(log[1]))},
        {gate: must_lines(kinds, log, gate) for gate in ("entries", "exits")},
    )


def fitting_exits(kinds, entry_line, exits):
    """The ascending list of the numbers of the exits that fit this entry."""
    travels = [kinds[kind] for kind in line_kinds(kinds, entry_line)]
    first = entry_line[0] + min(travel[0] for travel in travels)
    last = entry_line[0] + max(travel[1] for travel in travels)
    # Most exits are too early or too late for each kind. This is seen faster than whether two lines fit.
    near = [number for number in range(len(exits)) if first <= exits[number][0] <= last]
    return [number for number in near if fits(kinds, entry_line, exits[number])]


def with_pair_apart(net, pair):
    """The net of the log in which the two lines of the pair are regarded as not fitting."""
    entry, leaving = pair
    return Net(
        {
            "entries": with_one_less(net.fit_lists["entries"], entry, leaving),
            "exits": with_one_less(net.fit_lists["exits"], leaving, entry),
        },
        net.musts,
    )


def with_one_less(fit_lists, number, gone):
    """The lists, with one line less in the list of the line with this number."""
    shorter = [other for other in fit_lists[number] if other != gone]
    return fit_lists[:number] + [shorter] + fit_lists[number + 1:]


def without_lines(net, entries, exits):
    """The net of the log regarded without these lines. The other lines keep their numbers."""
    # A line that fits nothing and need not be paired has no part in any world or excess.
    return Net(
        {
            "entries": with_lists_less(net.fit_lists["entries"], entries, exits),
            "exits": with_lists_less(net.fit_lists["exits"], exits, entries),
        },
        {
            "entries": [number for number in net.musts["entries"] if number not in entries],
            "exits": [number for number in net.musts["exits"] if number not in exits],
        },
    )


def with_lists_less(fit_lists, numbers, gone):
    """The lists, with empty ones for the lines with these numbers, and without the gone lines in the other ones."""
    return [
        [] if number in numbers else [other for other in fit_lists[number] if other not in gone]
        for number in range(len(fit_lists))
    ]


def without_line(net, gate, number):
    """The net of the log regarded without one line."""
    if gate == "entries":
        return without_lines(net, [number], [])
    return without_lines(net, [], [number])
