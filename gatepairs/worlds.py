"""Worlds of a log, and excesses, which show that there is none."""

from gatepairs.errors import Contradiction
from gatepairs.lines import fits, fitting_numbers, gate_lines, must_lines
from gatepairs.matching import pair_musts
from gatepairs.values import is_number_list, is_pair_list, is_tuple


def is_world(kinds, log, value):
    """True if the value, which may be any value, is a world of the log."""
    entries, exits = log[0], log[1]
    if not is_pair_list(value, len(entries), len(exits)):
        return False
    if not all(fits(kinds, entries[pair[0]], exits[pair[1]]) for pair in value):
        return False
    return pairs_each_must(kinds, log, "entries", [pair[0] for pair in value]) and pairs_each_must(
        kinds, log, "exits", [pair[1] for pair in value]
    )


def pairs_each_must(kinds, log, gate, paired):
    """True if no line of the gate is paired twice and each must line is paired."""
    if len(set(paired)) < len(paired):
        return False
    return len(set(must_lines(kinds, log, gate)) - set(paired)) == 0


def is_excess(kinds, log, value):
    """True if the value, which may be any value, is an excess of the log."""
    if not is_tuple(value, 2) or value[0] not in ("entries", "exits"):
        return False
    gate, numbers = value
    if not is_number_list(numbers, len(gate_lines(log, gate))):
        return False
    if len(set(numbers) - set(must_lines(kinds, log, gate))) > 0:
        return False
    # An empty list fits no line at all, which is not fewer than none.
    return count_fitting(kinds, log, gate, numbers) < len(numbers)


def count_fitting(kinds, log, gate, numbers):
    """How many lines of the other gate fit at least one of these lines."""
    return len({other for number in numbers for other in fitting_numbers(kinds, log, gate, number)})


def find_world(kinds, log):
    """Any world of the log. Raises Contradiction with an excess if there is none."""
    exit_of = [None] * len(log[0])
    entry_of = [None] * len(log[1])
    exit_of, entry_of = settle(kinds, log, "entries", exit_of, entry_of)
    # The second round leaves each paired entry paired, so the must entries stay settled.
    entry_of, exit_of = settle(kinds, log, "exits", entry_of, exit_of)
    return [(entry, exit_of[entry]) for entry in range(len(exit_of)) if exit_of[entry] is not None]


def settle(kinds, log, gate, partners, holders):
    """Give each must line of the gate a partner. Raises Contradiction with an excess if this is not possible."""
    fit_lists = [fitting_numbers(kinds, log, gate, number) for number in range(len(partners))]
    partners, holders, lacking = pair_musts(fit_lists, must_lines(kinds, log, gate), partners, holders)
    if lacking is not None:
        raise Contradiction((gate, lacking))
    return partners, holders
