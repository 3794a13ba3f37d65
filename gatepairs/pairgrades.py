"""Grades of pairs: which pairs are in all best worlds, in some of them, or in none."""

from gatepairs.bestworlds import find_best_world, lack_lists, ranks_of, with_stand_ins
from gatepairs.evidence import greater_shortage, is_greater_shortage
from gatepairs.extensions import restriction
from gatepairs.graded import is_best_world
from gatepairs.nets import net_of, with_pair_apart, without_lines
from gatepairs.values import is_tuple
from gatepairs.verdicts import certain_pairs_of, possible_pairs_of


def pair_grade(kinds, log, trusts, entry_number, exit_number):
    """Any grade of the pair."""
    net, ranks = net_of(kinds, log), ranks_of(trusts)
    world = find_best_world(net, ranks, [])
    if exit_number not in net.fit_lists["entries"][entry_number]:
        return "impossible", world, None
    lacks = lack_lists(net, ranks, world)
    rest = without_lines(net, [entry_number], [exit_number])
    rest_world = find_best_world(rest, ranks, world)
    evidence = greater_shortage(rest, ranks, rest_world, lacks)
    if evidence is not None:
        return "impossible", world, evidence
    pair = (entry_number, exit_number)
    apart = with_pair_apart(net, pair)
    apart_world = find_best_world(apart, ranks, world)
    evidence = greater_shortage(apart, ranks, apart_world, lacks)
    if evidence is not None:
        return "certain", world, evidence
    return "undecided", sorted(rest_world + [pair]), apart_world


def is_pair_grade(kinds, log, trusts, entry_number, exit_number, value):
    """True if the value, which may be any value, is a grade of the pair."""
    if not is_tuple(value, 3) or not is_best_world(kinds, log, trusts, value[1]):
        return False
    word, world, evidence = value
    pair = (entry_number, exit_number)
    if word == "undecided":
        return pair in world and is_best_world(kinds, log, trusts, evidence) and pair not in evidence
    net, ranks = net_of(kinds, log), ranks_of(trusts)
    lacks = lack_lists(net, ranks, world)
    if word == "certain":
        return is_greater_shortage(with_pair_apart(net, pair), ranks, lacks, evidence)
    if word == "impossible":
        if exit_number not in net.fit_lists["entries"][entry_number]:
            return evidence is None
        return is_greater_shortage(without_lines(net, [entry_number], [exit_number]), ranks, lacks, evidence)
    return False


def sure_pairs(kinds, log, trusts):
    """The ascending list of all pairs that are certain in best worlds."""
    net, ranks = net_of(kinds, log), ranks_of(trusts)
    wider, world = with_stand_ins(net, ranks, find_best_world(net, ranks, []))
    return restriction(log, certain_pairs_of(wider, world))


def likely_pairs(kinds, log, trusts):
    """The ascending list of all pairs that are not impossible in best worlds."""
    net, ranks = net_of(kinds, log), ranks_of(trusts)
    wider, world = with_stand_ins(net, ranks, find_best_world(net, ranks, []))
    return restriction(log, possible_pairs_of(wider, world))
