"""Grades of lines: what all best worlds do with a line."""

from gatepairs.bestworlds import (
    find_best_world,
    ignored_from,
    ignored_lines,
    lack_lists,
    lines_from,
    ranks_of,
)
from gatepairs.evidence import greater_shortage, is_greater_shortage, is_list_of, least_shortage
from gatepairs.graded import is_best_world
from gatepairs.nets import net_of, without_line
from gatepairs.verdicts import has_line
from gatepairs.worlds import excess_size


def line_grade(kinds, log, trusts, gate, number):
    """Any grade of the line."""
    net, ranks = net_of(kinds, log), ranks_of(trusts)
    if number in net.musts[gate]:
        return must_line_grade(net, ranks, gate, number)
    world = find_best_world(net, ranks, [])
    rest = without_line(net, gate, number)
    # The line may be open, so it need not be ignored where it is in no tuple.
    other = find_best_world(rest, ranks, world)
    evidence = greater_shortage(rest, ranks, other, lack_lists(net, ranks, world))
    if evidence is None:
        return "open", other
    return "paired", world, evidence


def must_line_grade(net, ranks, gate, number):
    """Any grade of the must line."""
    rank = ranks[gate][number]
    # The world pairs the line if any best world does.
    ahead = with_line_ahead(ranks, gate, number)
    world = find_best_world(net, ahead, [])
    if number in ignored_lines(net, gate, world):
        return "ignored", world, least_shortage(net, ahead, world, gate, rank + 1)
    shortage = least_shortage(net, ranks, world, gate, rank)
    if number not in shortage:
        return "paired", world, shortage
    # Without the line, one line less of its rank is ignored, so that together with it there are as many as before.
    return "either", world, find_best_world(without_line(net, gate, number), ranks, world)


def with_line_ahead(ranks, gate, number):
    """The ranks, where this line goes ahead of the other lines of its trust."""
    ahead = {other: list(ranks[other]) for other in ranks}
    ahead[gate][number] += 1
    return ahead


def is_line_grade(kinds, log, trusts, gate, number, value):
    """True if the value, which may be any value, is a grade of the line."""
    if not isinstance(value, tuple) or len(value) not in (2, 3) or not is_best_world(kinds, log, trusts, value[1]):
        return False
    net, ranks = net_of(kinds, log), ranks_of(trusts)
    is_must = number in net.musts[gate]
    if len(value) == 2:
        return value[0] == "open" and not is_must and not has_line(value[1], gate, number)
    word, world, evidence = value
    if word == "either":
        return (
            is_must
            and has_line(world, gate, number)
            and is_best_world(kinds, log, trusts, evidence)
            and not has_line(evidence, gate, number)
        )
    if word == "ignored":
        return is_must and shows_ignored(net, ranks, world, gate, number, evidence)
    if word == "paired" and is_must:
        return shows_paired(net, ranks, world, gate, number, evidence)
    lacks = lack_lists(net, ranks, world)
    return word == "paired" and is_greater_shortage(without_line(net, gate, number), ranks, lacks, evidence)


def shows_paired(net, ranks, world, gate, number, value):
    """True if the value, which may be any value, shows that each best world, as this one is, pairs the must line.

    It is a shortage at the threshold of the trust of the line, without the line, of the size of the lack there.
    """
    rank = ranks[gate][number]
    numbers = [other for other in lines_from(net, ranks, gate, rank) if other != number]
    lack = len(ignored_from(net, ranks, gate, world, rank))
    return is_list_of(net, gate, value, numbers) and excess_size(net, gate, value) == lack


def shows_ignored(net, ranks, world, gate, number, value):
    """True if the value, which may be any value, shows that each best world, as this one is, ignores the must line.

    It is a list of the line and of lines of greater trust, of a greater size than the lack of these.
    """
    rank = ranks[gate][number]
    numbers = lines_from(net, ranks, gate, rank + 1) + [number]
    lack = len(ignored_from(net, ranks, gate, world, rank + 1))
    return is_list_of(net, gate, value, numbers) and number in value and excess_size(net, gate, value) > lack
