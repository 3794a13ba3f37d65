"""Points 7 to 9 of the document once more, slow and word by word, to compare the program with."""

from itertools import combinations

from tests.samples import GATES


def names(kinds, line):
    return set(kinds) if line[1] is None else {line[1]}


def lines_fit(kinds, entry, leaving):
    if len({entry[2], leaving[2]} - {None}) == 2:
        return False
    both = names(kinds, entry) & names(kinds, leaving)
    return any(leaving[0] in range(entry[0] + kinds[name][0], entry[0] + kinds[name][1] + 1) for name in both)


def is_must(kinds, log, gate, number):
    """Tries each time that the passage that is not logged could have. Only for short travel times."""
    line = log[GATES.index(gate)][number]
    floor = log[3] if gate == "entries" else log[2]
    if floor == "closed":
        return True
    for name in names(kinds, line):
        for travel in range(kinds[name][0], kinds[name][1] + 1):
            time = line[0] + travel if gate == "entries" else line[0] - travel
            if floor <= time <= 10 ** 9:
                return False
    return True


def musts(kinds, log, gate):
    return [number for number in range(len(log[GATES.index(gate)])) if is_must(kinds, log, gate, number)]


def worlds(kinds, log):
    """The list of all worlds, in ascending order. Only for small logs."""
    must_entries, must_exits = musts(kinds, log, "entries"), musts(kinds, log, "exits")
    found = []

    def grow(entry, pairs):
        if entry == len(log[0]):
            if set(must_exits) <= {leaving for _, leaving in pairs}:
                found.append(pairs)
            return
        if entry not in must_entries:
            grow(entry + 1, pairs)
        for leaving in range(len(log[1])):
            taken = any(pair[1] == leaving for pair in pairs)
            if not taken and lines_fit(kinds, log[0][entry], log[1][leaving]):
                grow(entry + 1, [*pairs, (entry, leaving)])

    grow(0, [])
    return sorted(found)


def is_excess(kinds, log, gate, numbers):
    """True if these numbers, an ascending list of numbers of the gate, are an excess."""
    fitting = set()
    for number in numbers:
        for entry in range(len(log[0])):
            for leaving in range(len(log[1])):
                here, there = (entry, leaving) if gate == "entries" else (leaving, entry)
                if here == number and lines_fit(kinds, log[0][entry], log[1][leaving]):
                    fitting.add(there)
    return bool(numbers) and set(numbers) <= set(musts(kinds, log, gate)) and len(fitting) < len(numbers)


def excesses(kinds, log):
    """The list of all excesses. Only for small logs."""
    return [
        (gate, numbers)
        for gate in GATES
        for numbers in subsets(range(len(log[GATES.index(gate)])))
        if is_excess(kinds, log, gate, numbers)
    ]


def subsets(items):
    """The list of all ascending lists of some of the items."""
    items = list(items)
    return [list(chosen) for size in range(len(items) + 1) for chosen in combinations(items, size)]
