"""Extensions: what a log may become when later lines are logged, floors are raised and gates are closed."""

from gatepairs.lines import entry_may_be_open, exit_may_be_open, line_kinds


def is_extension(log, other):
    """True if the second log is an extension of the first one. Both have the same kinds table."""
    return is_grown(log[0], other[0], log[2], other[2]) and is_grown(log[1], other[1], log[3], other[3])


def is_grown(lines, others, floor, other_floor):
    """True if the other lines and floor of a gate may have come from these ones."""
    return (
        others[:len(lines)] == lines
        and all(is_not_lower(line[0], floor) for line in others[len(lines):])
        and is_not_lower(other_floor, floor)
    )


def is_not_lower(other, floor):
    """True if the other floor, or the time of a line, is not below the floor."""
    if floor == "closed":
        return other == "closed"
    return other == "closed" or other >= floor


def restriction(log, world):
    """The tuples of lines of the log in a world of one of its extensions."""
    return [(entry, leaving) for entry, leaving in world if entry < len(log[0]) and leaving < len(log[1])]


def complete(kinds, log, world):
    """Any extension with both gates closed in which each line that is open in the world is paired, and its world.

    Each open line is paired with an additional line, and there are no other additional lines.
    """
    entries, exits = list(log[0]), list(log[1])
    pairs = list(world)
    for entry in open_numbers(len(log[0]), [pair[0] for pair in world]):
        pairs.append((entry, len(exits)))
        exits.append(missing_exit(kinds, log[0][entry], log[3]))
    for leaving in open_numbers(len(log[1]), [pair[1] for pair in world]):
        pairs.append((len(entries), leaving))
        entries.append(missing_entry(kinds, log[1][leaving], log[2]))
    return (entries, exits, "closed", "closed"), sorted(pairs)


def open_numbers(many, paired):
    """The ascending list of the lines that are not paired."""
    return [number for number in range(many) if number not in paired]


def missing_exit(kinds, line, floor):
    """An exit, not logged yet, that fits an entry that may be open."""
    time, _, plate = line
    fitting = [kind for kind in line_kinds(kinds, line) if entry_may_be_open(kinds, (time, kind, plate), floor)]
    return max(floor, time + kinds[fitting[0]][0]), fitting[0], plate


def missing_entry(kinds, line, floor):
    """An entry, not logged yet, that fits an exit that may be open."""
    time, _, plate = line
    fitting = [kind for kind in line_kinds(kinds, line) if exit_may_be_open(kinds, (time, kind, plate), floor)]
    return time - kinds[fitting[0]][0], fitting[0], plate
