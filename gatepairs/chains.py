"""Chains: roads with more than two gates, and the ways of vehicles along all of them."""

from gatepairs.lines import is_floor, is_kinds, is_line
from gatepairs.values import is_tuple
from gatepairs.verdicts import certain_pairs_of, possible_pairs_of
from gatepairs.worlds import net_and_world, world_with_pair, world_without_pair

FEWEST_GATES = 3
MOST_GATES = 7
MOST_LINES = 40


def is_chain(value):
    """True if the value, which may be any value, is a chain."""
    if not is_tuple(value, 4):
        return False
    tables, gates, first_floor, last_floor = value
    return (
        is_table_list(tables)
        and is_gate_list(tables[0], gates)
        and len(gates) == len(tables) + 1
        and is_floor(first_floor)
        and is_floor(last_floor)
    )


def is_table_list(value):
    """True if the value is a list of kinds tables with the same names, and not of none at all."""
    return (
        isinstance(value, list)
        and len(value) > 0
        and all(is_kinds(item) for item in value)
        and all(sorted(item) == sorted(value[0]) for item in value)
    )


def is_gate_list(kinds, value):
    """True if the value is a list of three to seven gates. The kinds of its inner gates are not None."""
    return (
        isinstance(value, list)
        and FEWEST_GATES <= len(value) <= MOST_GATES
        and all(is_gate(kinds, item) for item in value)
        and all(passage[1] is not None for gate in value[1:-1] for passage in gate)
    )


def is_gate(kinds, value):
    """True if the value is a list of at most forty tuples of a time and a kind."""
    return isinstance(value, list) and len(value) <= MOST_LINES and all(is_passage(kinds, item) for item in value)


def is_passage(kinds, value):
    """True if the value is a tuple of a time and a kind."""
    return is_tuple(value, 2) and is_line(kinds, (value[0], value[1], None))


def segments(chain):
    """The list of the segments of the chain, as tuples (kinds, log)."""
    tables, gates, first_floor, last_floor = chain
    floors = [first_floor] + ["closed"] * (len(gates) - 2) + [last_floor]
    found = []
    for number in range(len(tables)):
        kinds = {name: tables[number][name] for name in tables[number]}
        log = (plain_lines(gates[number]), plain_lines(gates[number + 1]), floors[number], floors[number + 1])
        found.append((kinds, log))
    return found


def plain_lines(gate):
    """The lines of a gate of a chain, without plates."""
    return [(time, kind, None) for time, kind in gate]


def way_verdict(chain, first, last):
    """The verdict on a line of the first gate and a line of the last gate.

    Raises Contradiction with an excess of the first segment that is contradictory.
    """
    solved = solved_segments(chain)
    certain = [certain_pairs_of(net, world) for net, world in solved]
    way = find_way(certain, first, last)
    if way is not None:
        return "certain", way
    way = find_way([possible_pairs_of(net, world) for net, world in solved], first, last)
    if way is None:
        return ("impossible",)
    return "undecided", joining_worlds(solved, way), parting_worlds(solved, certain, first, last)


def solved_segments(chain):
    """The list of the nets of the segments, each with a world."""
    return [net_and_world(kinds, log) for kinds, log in segments(chain)]


def find_way(pair_lists, first, last):
    """A way from the first line to the last one, along one pair of each list, or None."""
    # For each gate, the lines that the first line reaches, each with the way to it.
    ways = {first: (first,)}
    for pairs in pair_lists:
        ways = {leaving: ways[entry] + (leaving,) for entry, leaving in pairs if entry in ways}
    return ways.get(last)


def joining_worlds(solved, way):
    """A world of the chain with this way, the pairs of which are possible."""
    found = []
    for number in range(len(solved)):
        net, world = solved[number]
        joined, _ = world_with_pair(net, world, (way[number], way[number + 1]))
        found.append(joined)
    return found


def parting_worlds(solved, certain, first, last):
    """A world of the chain in which no way leads from the first line to the last one, where no certain one does."""
    worlds = [world for _, world in solved]
    way = find_way(worlds, first, last)
    if way is None:
        return worlds
    # The other worlds bring the first line just here, and the last line from just there. So without this pair no other
    # way joins them.
    number = first_loose_step(certain, way)
    net, world = solved[number]
    worlds[number], _ = world_without_pair(net, world, (way[number], way[number + 1]))
    return worlds


def first_loose_step(certain, way):
    """The number of the first segment in which the pair of the way is not certain. There is one."""
    loose = [number for number in range(len(certain)) if (way[number], way[number + 1]) not in certain[number]]
    return loose[0]


def certain_ways(chain):
    """The ascending list of all ways of certain pairs.

    Raises Contradiction with an excess of the first segment that is contradictory.
    """
    certain = [certain_pairs_of(net, world) for net, world in solved_segments(chain)]
    ways = [(entry,) for entry in range(len(chain[1][0]))]
    for pairs in certain:
        ways = [way + (leaving,) for way in ways for entry, leaving in pairs if entry == way[-1]]
    return ways
