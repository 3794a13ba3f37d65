"""Monitors: they follow a growing log and report each pair as soon as it is certain."""

from gatepairs.errors import Contradiction, UnknownLine
from gatepairs.keeping import copy_of_lists, log_of, refuse_floor, refuse_line, with_item
from gatepairs.nets import net_of
from gatepairs.verdicts import certain_pairs, line_verdict, possible_pairs
from gatepairs.worlds import find_world, world_or_excess


class Monitor:
    """A monitor of a growing log, which always has a world.

    By gate, it holds the lines that are kept, their numbers, the floor, and how many lines were accepted. The reported
    pairs, as keys of a dict, are those that are not forgotten.
    """

    def __init__(self, kinds, *, start=None):
        self.kinds = {name: kinds[name] for name in kinds}
        log = ([], [], 0, 0) if start is None else start
        find_world(self.kinds, log)
        self.lines = {"entries": list(log[0]), "exits": list(log[1])}
        self.floors = {"entries": log[2], "exits": log[3]}
        self.numbers = {"entries": list(range(len(log[0]))), "exits": list(range(len(log[1])))}
        self.counts = {"entries": len(log[0]), "exits": len(log[1])}
        self.reported = {}

    def enter(self, time, kind=None, plate=None):
        """Log an entry and return its number. Raises LateLine, GateFull or Contradiction."""
        return self.add_line("entries", (time, kind, plate))

    def leave(self, time, kind=None, plate=None):
        """Log an exit and return its number. Raises LateLine, GateFull or Contradiction."""
        return self.add_line("exits", (time, kind, plate))

    def add_line(self, gate, line):
        """Log a line of the gate and return its number."""
        refuse_line(gate, self.lines[gate], self.floors[gate], line[0])
        number = self.counts[gate]
        lines = with_item(self.lines, gate, self.lines[gate] + [line])
        numbers = with_item(self.numbers, gate, self.numbers[gate] + [number])
        refuse_contradiction(self.kinds, log_of(lines, self.floors), numbers)
        self.lines = lines
        self.numbers = numbers
        self.counts[gate] = number + 1
        return number

    def raise_floor(self, gate, floor):
        """Set the floor of the gate to an integer. Raises LowerFloor or Contradiction."""
        refuse_floor(self.floors[gate], floor)
        self.set_floor(gate, floor)

    def close(self, gate):
        """Close the gate. Raises Contradiction."""
        self.set_floor(gate, "closed")

    def set_floor(self, gate, floor):
        """Set the floor of the gate to an integer or "closed"."""
        floors = with_item(self.floors, gate, floor)
        refuse_contradiction(self.kinds, log_of(self.lines, floors), self.numbers)
        self.floors = floors

    def news(self):
        """The ascending list of the certain pairs that were not reported yet. They are reported now."""
        entry_numbers, exit_numbers = self.numbers["entries"], self.numbers["exits"]
        certain = certain_pairs(self.kinds, log_of(self.lines, self.floors))
        pairs = [(entry_numbers[entry], exit_numbers[leaving]) for entry, leaving in certain]
        new = [pair for pair in pairs if pair not in self.reported]
        for pair in new:
            self.reported[pair] = True
        return new

    def outcomes(self, entry_number):
        """A tuple of the exits that form a possible pair with the entry, and whether it is open in some world.

        Raises UnknownLine if no entry with this number is kept.
        """
        if entry_number not in self.numbers["entries"]:
            raise UnknownLine(entry_number)
        place = self.numbers["entries"].index(entry_number)
        log = log_of(self.lines, self.floors)
        pairs = possible_pairs(self.kinds, log)
        exits = [self.numbers["exits"][leaving] for entry, leaving in pairs if entry == place]
        return exits, line_verdict(self.kinds, log, "entries", place)[0] == "open"

    def forget(self):
        """Remove the lines of all reported pairs from the log, and return the number of these pairs."""
        many = len(self.reported)
        self.keep_without("entries", [entry for entry, _ in self.reported])
        self.keep_without("exits", [leaving for _, leaving in self.reported])
        self.reported = {}
        return many

    def keep_without(self, gate, gone):
        """Remove the lines of the gate with these numbers."""
        numbers = self.numbers[gate]
        kept = [place for place in range(len(numbers)) if numbers[place] not in gone]
        self.lines = with_item(self.lines, gate, [self.lines[gate][place] for place in kept])
        self.numbers = with_item(self.numbers, gate, [numbers[place] for place in kept])

    def snapshot(self):
        """A tuple (log, entry_numbers, exit_numbers) of the log that is kept and the numbers of its lines."""
        return log_of(self.lines, self.floors), list(self.numbers["entries"]), list(self.numbers["exits"])

    def fork(self):
        """A new monitor with the same state."""
        other = Monitor(self.kinds, start=log_of(self.lines, self.floors))
        other.numbers = copy_of_lists(self.numbers)
        other.counts = {gate: self.counts[gate] for gate in self.counts}
        other.reported = {pair: True for pair in self.reported}
        return other


def refuse_contradiction(kinds, log, numbers):
    """Raise Contradiction if the log has no world, with an excess in these numbers, which are given by gate."""
    _, excess = world_or_excess(net_of(kinds, log), [])
    if excess is not None:
        gate, places = excess
        raise Contradiction((gate, [numbers[gate][place] for place in places]))
