"""Points 7 to 15 of the document once more, slow and word by word, to compare the program with."""

from itertools import combinations

from tests.samples import GATES, same


def names(kinds, line):
    return set(kinds) if line[1] is None else {line[1]}


def lines_fit(kinds, entry, leaving):
    if len({entry[2], leaving[2]} - {None}) == 2:
        return False
    both = names(kinds, entry) & names(kinds, leaving)
    return any(leaving[0] in range(entry[0] + kinds[name][0], entry[0] + kinds[name][1] + 1) for name in both)


def is_must(kinds, log, gate, number):
    """Tries each time that the passage that is not logged could have. Only for short travel times."""
    line = log[GATES.index(gate)][number]
    floor = log[3] if gate == "entries" else log[2]
    if floor == "closed":
        return True
    for name in names(kinds, line):
        for travel in range(kinds[name][0], kinds[name][1] + 1):
            time = line[0] + travel if gate == "entries" else line[0] - travel
            if floor <= time <= 10 ** 9:
                return False
    return True


def musts(kinds, log, gate):
    return [number for number in range(len(log[GATES.index(gate)])) if is_must(kinds, log, gate, number)]


def regarded_fit(kinds, log, pair, apart=(), gone=((), ())):
    """True if the pair fits in the log regarded without the gone lines, where the pair apart does not fit."""
    if pair == apart or pair[0] in gone[0] or pair[1] in gone[1]:
        return False
    return lines_fit(kinds, log[0][pair[0]], log[1][pair[1]])


def regarded_musts(kinds, log, gate, gone=((), ())):
    """The must lines of the gate that are not gone."""
    return [number for number in musts(kinds, log, gate) if number not in gone[GATES.index(gate)]]


def worlds(kinds, log, apart=(), gone=((), ())):
    """The list of all worlds, in ascending order. Only for small logs.

    The log can be regarded as one in which the pair apart does not fit, or without the entries and the exits that are
    gone.
    """
    must_entries, must_exits = (regarded_musts(kinds, log, gate, gone) for gate in GATES)
    found = []

    def grow(entry, pairs):
        if entry == len(log[0]):
            if set(must_exits) <= {leaving for _, leaving in pairs}:
                found.append(pairs)
            return
        if entry not in must_entries:
            grow(entry + 1, pairs)
        for leaving in range(len(log[1])):
            taken = any(pair[1] == leaving for pair in pairs)
            if not taken and regarded_fit(kinds, log, (entry, leaving), apart, gone):
                grow(entry + 1, [*pairs, (entry, leaving)])

    grow(0, [])
    return sorted(found)


def is_excess(kinds, log, gate, numbers, apart=(), gone=((), ())):
    """True if these numbers, an ascending list of numbers of the gate, are an excess."""
    if not numbers or not set(numbers) <= set(regarded_musts(kinds, log, gate, gone)):
        return False
    return size(kinds, log, gate, numbers, apart, gone) > 0


def size(kinds, log, gate, numbers, apart=(), gone=((), ())):
    """The number of these lines minus the number of the lines of the other gate that fit at least one of them."""
    fitting = set()
    for entry in range(len(log[0])):
        for leaving in range(len(log[1])):
            here, there = (entry, leaving) if gate == "entries" else (leaving, entry)
            if here in numbers and regarded_fit(kinds, log, (entry, leaving), apart, gone):
                fitting.add(there)
    return len(numbers) - len(fitting)


def excesses(kinds, log, apart=(), gone=((), ())):
    """The list of all excesses. Only for small logs."""
    return [
        (gate, numbers)
        for gate in GATES
        for numbers in subsets(range(len(log[GATES.index(gate)])))
        if is_excess(kinds, log, gate, numbers, apart, gone)
    ]


def all_pairs(log):
    """All pairs of an entry and an exit."""
    return [(entry, leaving) for entry in range(len(log[0])) for leaving in range(len(log[1]))]


def subsets(items):
    """The list of all ascending lists of some of the items."""
    items = list(items)
    return [list(chosen) for many in range(len(items) + 1) for chosen in combinations(items, many)]


def is_one_of(value, values):
    """True if the value is one of the values, also in the kinds of its parts."""
    return any(same(value, other) for other in values)


def is_verdict(kinds, log, pair, value):
    """Point 10 for any value. Only for small logs."""
    right = worlds(kinds, log)
    if not isinstance(value, tuple) or len(value) != 3 or not is_one_of(value[1], right):
        return False
    word, world, evidence = value
    if same(word, "certain"):
        return is_one_of(evidence, excesses(kinds, log, apart=pair))
    if same(word, "undecided"):
        return pair in world and is_one_of(evidence, right) and pair not in evidence
    if not same(word, "impossible"):
        return False
    if not lines_fit(kinds, log[0][pair[0]], log[1][pair[1]]):
        return evidence is None
    return is_one_of(evidence, excesses(kinds, log, gone=([pair[0]], [pair[1]])))


def verdict_word(kinds, log, pair):
    """The word of the verdict on the pair of a consistent log, from all its worlds."""
    found = [pair in world for world in worlds(kinds, log)]
    if all(found):
        return "certain"
    return "undecided" if any(found) else "impossible"


def open_worlds(kinds, log, gate, number):
    """The worlds in which the line is open."""
    place = GATES.index(gate)
    return [world for world in worlds(kinds, log) if number not in [pair[place] for pair in world]]


def is_line_verdict(kinds, log, gate, number, value):
    """Point 11 for any value. Only for small logs."""
    if not isinstance(value, tuple) or len(value) not in (2, 3):
        return False
    if len(value) == 2:
        return same(value[0], "open") and is_one_of(value[1], open_worlds(kinds, log, gate, number))
    if not same(value[0], "paired") or not is_one_of(value[1], worlds(kinds, log)):
        return False
    if is_must(kinds, log, gate, number):
        return value[2] is None
    gone = ([number], []) if gate == "entries" else ([], [number])
    return is_one_of(value[2], excesses(kinds, log, gone=gone))


def is_level(value):
    return type(value) is int and 0 <= value <= 10 ** 6


def is_level_table(kinds, log, value):
    """Point 12 for any value. Only for small logs."""
    if not isinstance(value, tuple) or len(value) != 4 or not is_one_of(value[0], worlds(kinds, log)):
        return False
    world, entry_levels, exit_levels, outside = value
    for levels, lines in ((entry_levels, log[0]), (exit_levels, log[1]), ([outside], [None])):
        if type(levels) is not list or len(levels) != len(lines) or not all(map(is_level, levels)):
            return False
    if any(entry_levels[entry] != exit_levels[leaving] for entry, leaving in world):
        return False
    for place, levels in ((0, entry_levels), (1, exit_levels)):
        paired = [pair[place] for pair in world]
        if any(levels[number] != outside for number in range(len(levels)) if number not in paired):
            return False
    return is_descending(kinds, log, *value[1:])


def is_descending(kinds, log, entry_levels, exit_levels, outside):
    """What point 12 says of lines that fit, and of lines that may be open."""
    for entry, leaving in all_pairs(log):
        if lines_fit(kinds, log[0][entry], log[1][leaving]) and entry_levels[entry] < exit_levels[leaving]:
            return False
    for entry, level in enumerate(entry_levels):
        if not is_must(kinds, log, "entries", entry) and level < outside:
            return False
    for leaving, level in enumerate(exit_levels):
        if not is_must(kinds, log, "exits", leaving) and level > outside:
            return False
    return True


def is_sharp(kinds, log, value):
    """Point 12 for any value. Only for small logs."""
    if not is_level_table(kinds, log, value):
        return False
    _, entry_levels, exit_levels, outside = value
    for entry, leaving in all_pairs(log):
        if lines_fit(kinds, log[0][entry], log[1][leaving]) and entry_levels[entry] == exit_levels[leaving]:
            if verdict_word(kinds, log, (entry, leaving)) == "impossible":
                return False
    for gate, levels in zip(GATES, (entry_levels, exit_levels)):
        for number, level in enumerate(levels):
            if level == outside and not is_must(kinds, log, gate, number):
                if not open_worlds(kinds, log, gate, number):
                    return False
    return True


def is_repair(kinds, log, value):
    """Point 15 for any value. Only for small logs."""
    if not isinstance(value, tuple) or len(value) != 5:
        return False
    ignored, world, chosen = value[:2], value[2], value[3:]
    for place, gate in enumerate(GATES):
        numbers = range(len(log[place]))
        if not is_one_of(ignored[place], subsets(numbers)):
            return False
        if not is_one_of(chosen[place], subsets(musts(kinds, log, gate))):
            return False
        if size(kinds, log, gate, chosen[place]) != len(ignored[place]):
            return False
    return is_one_of(world, worlds(kinds, log, gone=ignored))


def fewest_ignored(kinds, log):
    """The least number of lines that can be ignored so that the rest has a world. Only for small logs."""
    ways = [(first, second) for first in subsets(range(len(log[0]))) for second in subsets(range(len(log[1])))]
    for many in range(len(log[0]) + len(log[1]) + 1):
        for gone in ways:
            if len(gone[0]) + len(gone[1]) == many and worlds(kinds, log, gone=gone):
                return many
    return None
