"""Tolerant monitors: they follow a log that may be contradictory, and ignore lines of it by their trusts."""

from gatepairs.bestworlds import find_best_world, ignored_lines, lack_lists
from gatepairs.errors import UnknownLine
from gatepairs.graded import graded_repair_of
from gatepairs.keeping import copy_of_lists, log_of, refuse_floor, refuse_line
from gatepairs.linegrades import line_grade
from gatepairs.nets import net_of
from gatepairs.pairgrades import likely_pairs, pair_grade, sure_pairs


class Tolerant:
    """A tolerant monitor.

    By gate, it holds the lines that are kept, their trusts and numbers, the floor, how many lines have come, and the
    numbers of the lines that the kept best repair ignores. The told pairs are those that were certain when it was asked
    for news last.
    """

    def __init__(self, kinds):
        self.kinds = {name: kinds[name] for name in kinds}
        self.lines = {"entries": [], "exits": []}
        self.trusts = {"entries": [], "exits": []}
        self.numbers = {"entries": [], "exits": []}
        self.floors = {"entries": 0, "exits": 0}
        self.counts = {"entries": 0, "exits": 0}
        self.ignored = {"entries": [], "exits": []}
        self.told = []

    def enter(self, time, kind=None, plate=None, *, trust=5):
        """Log an entry and return its number. Raises LateLine or GateFull."""
        return self.add_line("entries", (time, kind, plate), trust)

    def leave(self, time, kind=None, plate=None, *, trust=5):
        """Log an exit and return its number. Raises LateLine or GateFull."""
        return self.add_line("exits", (time, kind, plate), trust)

    def add_line(self, gate, passage, trust):
        """Log a line of the gate and return its number."""
        refuse_line(gate, self.lines[gate], self.floors[gate], passage[0])
        number = self.counts[gate]
        self.lines[gate].append(passage)
        self.trusts[gate].append(trust)
        self.numbers[gate].append(number)
        self.counts[gate] = number + 1
        self.repair_anew()
        return number

    def raise_floor(self, gate, floor):
        """Set the floor of the gate to an integer. Raises LowerFloor."""
        refuse_floor(self.floors[gate], floor)
        self.floors[gate] = floor
        self.repair_anew()

    def close(self, gate):
        """Close the gate."""
        self.floors[gate] = "closed"
        self.repair_anew()

    def trust_anew(self, gate, number, trust):
        """Give the line another trust. Raises UnknownLine."""
        place = self.place_of(gate, number)
        self.trusts[gate][place] = trust
        self.repair_anew()

    def take_back(self, gate, number):
        """Remove the line from the log. Raises UnknownLine."""
        place = self.place_of(gate, number)
        del self.lines[gate][place]
        del self.trusts[gate][place]
        del self.numbers[gate][place]
        self.repair_anew()

    def place_of(self, gate, number):
        """The place of the line among those of the gate that are kept. Raises UnknownLine."""
        if number not in self.numbers[gate]:
            raise UnknownLine(number)
        return self.numbers[gate].index(number)

    def repair_anew(self):
        """Keep a best repair that differs from the kept one as little as possible."""
        net, _, world = self.near_world()
        self.ignored = {gate: self.named(gate, ignored_lines(net, gate, world)) for gate in self.numbers}

    def near_world(self):
        """A tuple of the net of the log, its ranks, and a best world that ignores what was ignored, where it can."""
        net = net_of(self.kinds, log_of(self.lines, self.floors))
        ranks = {gate: self.ranks_at(gate) for gate in self.numbers}
        return net, ranks, find_best_world(net, ranks, [])

    def ranks_at(self, gate):
        """The ranks of the lines of the gate. What was not ignored goes ahead of what was, among lines of one trust."""
        return [
            2 * trust if number in self.ignored[gate] else 2 * trust + 1
            for trust, number in zip(self.trusts[gate], self.numbers[gate])
        ]

    def lacks(self):
        """A tuple of the lacks of the entries and those of the exits at the thresholds from 1 to 9."""
        net, ranks, world = self.near_world()
        found = lack_lists(net, ranks, world)
        return found["entries"], found["exits"]

    def best(self):
        """Any graded repair with the ignored lines of the kept best repair."""
        net, ranks, world = self.near_world()
        ignored_entries, ignored_exits, _, entry_shortages, exit_shortages = graded_repair_of(net, ranks, world)
        return (
            self.named("entries", ignored_entries),
            self.named("exits", ignored_exits),
            self.named_pairs(world),
            [self.named("entries", shortage) for shortage in entry_shortages],
            [self.named("exits", shortage) for shortage in exit_shortages],
        )

    def line(self, gate, number):
        """The word of the grade of the line. Raises UnknownLine."""
        place = self.place_of(gate, number)
        log, trusts = self.trusted_log()
        return line_grade(self.kinds, log, trusts, gate, place)[0]

    def pair(self, entry_number, exit_number):
        """The word of the grade of the pair. Raises UnknownLine."""
        entry = self.place_of("entries", entry_number)
        leaving = self.place_of("exits", exit_number)
        log, trusts = self.trusted_log()
        return pair_grade(self.kinds, log, trusts, entry, leaving)[0]

    def outcomes(self, entry_number):
        """A tuple of the exits of pairs with the entry that are in a best world, and whether some leaves it alone.

        Raises UnknownLine.
        """
        is_alone = self.line("entries", entry_number) != "paired"
        log, trusts = self.trusted_log()
        pairs = self.named_pairs(likely_pairs(self.kinds, log, trusts))
        return [leaving for entry, leaving in pairs if entry == entry_number], is_alone

    def certain(self):
        """The ascending list of all pairs that are certain in best worlds."""
        log, trusts = self.trusted_log()
        return self.named_pairs(sure_pairs(self.kinds, log, trusts))

    def news(self):
        """A tuple of the lists of the pairs that are certain and were not, and of those that were and are not.

        Both lists ascend, and tell what has changed since the monitor was asked for news last.
        """
        pairs, told = self.certain(), self.told
        self.told = pairs
        return [found for found in pairs if found not in told], [found for found in told if found not in pairs]

    def snapshot(self):
        """A tuple (log, trusts, entry_numbers, exit_numbers) of what is kept."""
        log, trusts = self.trusted_log()
        return log, trusts, list(self.numbers["entries"]), list(self.numbers["exits"])

    def fork(self):
        """A new tolerant monitor with the same state."""
        other = Tolerant(self.kinds)
        other.lines = copy_of_lists(self.lines)
        other.trusts = copy_of_lists(self.trusts)
        other.numbers = copy_of_lists(self.numbers)
        other.floors = {gate: self.floors[gate] for gate in self.floors}
        other.counts = {gate: self.counts[gate] for gate in self.counts}
        other.ignored = copy_of_lists(self.ignored)
        other.told = list(self.told)
        return other

    def trusted_log(self):
        """A tuple of the log that is kept and its trusts."""
        return log_of(self.lines, self.floors), (list(self.trusts["entries"]), list(self.trusts["exits"]))

    def named(self, gate, places):
        """The numbers of the lines of the gate that stand at these places."""
        return [self.numbers[gate][place] for place in places]

    def named_pairs(self, pairs):
        """The pairs of the numbers of the lines that stand at these places."""
        return [(self.numbers["entries"][entry], self.numbers["exits"][leaving]) for entry, leaving in pairs]
