"""Point 31: what holds of lacks, best worlds and grades, as far as small logs show it."""

import unittest
from itertools import product
from random import Random

from gatepairs.bestworlds import find_best_world, ignored_lines, lack_lists, ranks_of, with_stand_ins
from gatepairs.evidence import all_shortages, greater_shortage, least_shortage
from gatepairs.graded import graded_repair, is_best_world, is_graded_repair
from gatepairs.linegrades import is_line_grade, line_grade
from gatepairs.nets import net_of
from gatepairs.pairgrades import is_pair_grade, pair_grade, sure_pairs
from gatepairs.repairs import is_repair, repair
from gatepairs.shortages import lacks
from gatepairs.worlds import find_world, is_world
from tests import reference
from tests.case import Case
from tests.loose import Loose, crowded_logs, random_trusts, with_trusts
from tests.samples import GATES, busy_logs, large_logs, random_line, same, small_logs


def samples(seed, many):
    """Small logs with trusts, as tuples (kinds, log, trusts)."""
    return with_trusts([*small_logs(many), *busy_logs(many // 4), *crowded_logs(many)], seed)


def all_words(kinds, log, trusts):
    """The words of the grades of all lines and of all pairs, as dicts."""
    lines = {
        (gate, number): line_grade(kinds, log, trusts, gate, number)[0]
        for place, gate in enumerate(GATES)
        for number in range(len(log[place]))
    }
    return lines, {pair: pair_grade(kinds, log, trusts, *pair)[0] for pair in reference.all_pairs(log)}


def without_line(log, trusts, place, number):
    """The log and its trusts without one line. The lines behind it get other numbers."""
    lines, numbers = list(log[:2]), list(trusts)
    lines[place] = lines[place][:number] + lines[place][number + 1 :]
    numbers[place] = numbers[place][:number] + numbers[place][number + 1 :]
    return (*lines, *log[2:]), tuple(numbers)


def with_trust(trusts, place, number, trust):
    changed = [list(numbers) for numbers in trusts]
    changed[place][number] = trust
    return tuple(changed)


def differences(first, second):
    """The differences between two results of lacks, at each gate and threshold."""
    return [abs(one - other) for lists in zip(first, second) for one, other in zip(*lists)]


class LacksTest(Case):
    def test_consistent_logs(self):
        count = 0
        for kinds, log, trusts in samples(20, 200):
            worlds = reference.worlds(kinds, log)
            self.assertEqual(any(map(any, lacks(kinds, log, trusts))), not worlds)
            if worlds:
                count += 1
                self.assertIs(is_best_world(kinds, log, trusts, find_world(kinds, log)), True)
                self.assertIs(is_world(kinds, log, graded_repair(kinds, log, trusts)[2]), True)
        self.assertGreater(count, 50)

    def test_thresholds(self):
        random = Random(80)
        for kinds, log, trusts in samples(21, 200):
            found = lacks(kinds, log, trusts)
            for counts in found:
                self.assertEqual(counts, sorted(counts, reverse=True))
                self.assertGreaterEqual(counts[-1], 0)
            other = lacks(kinds, log, random_trusts(random, log))
            self.assertEqual([counts[0] for counts in found], [counts[0] for counts in other])

    def test_one_line_more_or_less(self):
        random = Random(81)
        changes = []
        for kinds, log, trusts in samples(22, 250):
            before = lacks(kinds, log, trusts)
            for place in range(2):
                for number in range(len(log[place])):
                    found = differences(before, lacks(kinds, *without_line(log, trusts, place, number)))
                    self.assertLessEqual(max(found), 1)
                    changes.append(sum(found))
                lines, numbers = list(log[:2]), list(trusts)
                lines[place] = [*lines[place], random_line(random, kinds, 9)]
                numbers[place] = [*numbers[place], random.randint(1, 9)]
                found = differences(before, lacks(kinds, (*lines, *log[2:]), tuple(numbers)))
                self.assertLessEqual(max(found), 1)
                changes.append(sum(found))
        self.assertTrue(changes.count(0) > 100 and len(changes) - changes.count(0) > 100)

    def test_one_line_with_another_trust(self):
        changes = []
        for kinds, log, trusts in samples(23, 150):
            before = lacks(kinds, log, trusts)
            for place in range(2):
                for number, trust in product(range(len(log[place])), (1, 4, 9)):
                    found = differences(before, lacks(kinds, log, with_trust(trusts, place, number, trust)))
                    self.assertLessEqual(max(found), 1)
                    changes.append(sum(found))
        self.assertTrue(changes.count(0) > 100 and len(changes) - changes.count(0) > 100)


class BestRepairsTest(Case):
    def test_equal_trusts(self):
        contradictory = 0
        for number, (kinds, log, _) in enumerate(samples(24, 150)):
            trusts = tuple([1 + number % 9] * len(lines) for lines in log[:2])
            excesses = repair(kinds, log)[3:]
            for world in Loose(kinds, log, trusts).worlds:
                loose = Loose(kinds, log, trusts)
                ignored = tuple(loose.ignored(gate, world) for gate in GATES)
                expected = is_repair(kinds, log, (*ignored, world, *excesses))
                self.assertIs(is_best_world(kinds, log, trusts, world), expected)
            contradictory += excesses != ([], [])
        self.assertGreater(contradictory, 100)

    def test_trusts_in_the_same_order(self):
        random = Random(82)
        for kinds, log, trusts in samples(25, 200):
            other = []
            for numbers in trusts:
                values = sorted(set(numbers))
                renamed = dict(zip(values, sorted(random.sample(range(1, 10), len(values)))))
                other.append([renamed[number] for number in numbers])
            for world in Loose(kinds, log, trusts).worlds:
                expected = is_best_world(kinds, log, trusts, world)
                self.assertIs(is_best_world(kinds, log, tuple(other), world), expected)

    def test_prices(self):
        random = Random(83)
        dearer = 0
        for kinds, log, trusts in samples(26, 300):
            loose = Loose(kinds, log, trusts)
            best = graded_repair(kinds, log, trusts)[2]
            for most in (0, 1, 3, 10 ** 9):
                prices = sorted(random.randint(0, most) for _ in range(9))

                def price(world):
                    return sum(
                        prices[trusts[place][number] - 1]
                        for place, gate in enumerate(GATES)
                        for number in loose.ignored(gate, world)
                    )

                self.assertEqual(price(best), min(map(price, loose.worlds)))
                dearer += price(best) < max(map(price, loose.worlds))
        self.assertGreater(dearer, 100)

    def test_paired_lines_trusted_more_and_ignored_ones_less(self):
        changes = 0
        for kinds, log, trusts in samples(27, 150):
            loose = Loose(kinds, log, trusts)
            for place, gate in enumerate(GATES):
                for number in loose.musts[gate]:
                    word = line_grade(kinds, log, trusts, gate, number)[0]
                    trust = trusts[place][number]
                    others = {"paired": range(trust + 1, 10), "ignored": range(1, trust), "either": []}[word]
                    for other in list(others)[::3]:
                        changed = with_trust(trusts, place, number, other)
                        self.assertEqual(Loose(kinds, log, changed).best_repairs, loose.best_repairs)
                        self.assertIs(is_best_world(kinds, log, changed, loose.best[0]), True)
                        self.assertIs(is_best_world(kinds, log, trusts, graded_repair(kinds, log, changed)[2]), True)
                        changes += 1
        self.assertGreater(changes, 200)


class BeyondTest(Case):
    def test_trusts_somewhat_beyond_the_limits_raise_nothing(self):
        for kinds, log, trusts in samples(33, 60):
            for trust in (0, 10, 11):
                others = trusts
                for place in range(2):
                    if log[place]:
                        others = with_trust(others, place, 0, trust)
                lacks(kinds, log, others)
                is_graded_repair(kinds, log, others, graded_repair(kinds, log, others))
                sure_pairs(kinds, log, others)
                for place, gate in enumerate(GATES):
                    for number in range(len(log[place])):
                        value = line_grade(kinds, log, others, gate, number)
                        is_line_grade(kinds, log, others, gate, number, value)
                for pair in reference.all_pairs(log):
                    is_pair_grade(kinds, log, others, *pair, pair_grade(kinds, log, others, *pair))


class CertainPairsTest(Case):
    def test_both_lines_left_out(self):
        count = 0
        for kinds, log, trusts in samples(28, 200):
            line_words, pair_words = all_words(kinds, log, trusts)
            for entry, leaving in sure_pairs(kinds, log, trusts):
                rest, rest_trusts = without_line(*without_line(log, trusts, 0, entry), 1, leaving)
                self.assertTrue(same(lacks(kinds, rest, rest_trusts), lacks(kinds, log, trusts)))
                kept = [[n for n in range(len(log[0])) if n != entry], [n for n in range(len(log[1])) if n != leaving]]
                found = all_words(kinds, rest, rest_trusts)
                for (gate, number), word in found[0].items():
                    self.assertEqual(word, line_words[gate, kept[GATES.index(gate)][number]])
                for (first, second), word in found[1].items():
                    self.assertEqual(word, pair_words[kept[0][first], kept[1][second]])
                count += 1
        self.assertGreater(count, 100)


class PartsTest(Case):
    def test_search_from_any_start(self):
        random = Random(84)
        for kinds, log, trusts in samples(29, 200):
            loose = Loose(kinds, log, trusts)
            net, ranks = net_of(kinds, log), ranks_of(trusts)
            starts = [random.choice(loose.worlds), random.choice(loose.best)]
            pairs = reference.all_pairs(log)
            if pairs:
                starts.append([random.choice(pairs)])
            for start in starts:
                world = find_best_world(net, ranks, start)
                self.assertIn(world, loose.best)
                if start in loose.best:
                    self.assertLessEqual(set(start), set(world))

    def test_shortages_are_the_least(self):
        for kinds, log, trusts in samples(30, 100):
            loose = Loose(kinds, log, trusts)
            net, ranks = net_of(kinds, log), ranks_of(trusts)
            for world in loose.best[:3]:
                for gate in GATES:
                    found = all_shortages(net, ranks, world, gate)
                    for threshold in range(1, 10):
                        shortages = [
                            set(numbers)
                            for numbers in reference.subsets(loose.counting(gate, threshold))
                            if loose.size(gate, numbers) == loose.lack(gate, threshold)
                        ]
                        self.assertEqual(found[threshold - 1], sorted(set.intersection(*shortages)))
                        least = least_shortage(net, ranks, world, gate, 2 * threshold)
                        self.assertEqual(found[threshold - 1], least)
                self.assertIs(greater_shortage(net, ranks, world, lack_lists(net, ranks, world)), None)

    def test_ranks_between_the_trusts(self):
        random = Random(85)
        for kinds, log, trusts in samples(31, 200):
            ranks = {gate: [2 * t + random.randrange(2) for t in trusts[place]] for place, gate in enumerate(GATES)}
            world = find_best_world(net_of(kinds, log), ranks, [])
            loose = Loose(kinds, log, trusts)
            self.assertIn(world, loose.best)
            for gate in GATES:
                # Among the best worlds, as few as possible of the lines that go ahead are ignored.
                counts = [
                    len([number for number in loose.ignored(gate, other) if ranks[gate][number] % 2])
                    for other in [world, *loose.best]
                ]
                self.assertEqual(counts[0], min(counts))

    def test_stand_ins(self):
        many = 0
        for kinds, log, trusts in samples(32, 100):
            net, ranks = net_of(kinds, log), ranks_of(trusts)
            loose = Loose(kinds, log, trusts)
            wider, world = with_stand_ins(net, ranks, find_best_world(net, ranks, []))
            found = [ignored_lines(wider, gate, world) for gate in GATES]
            self.assertEqual(found, [[], []])
            real = [pair for pair in world if pair[0] < len(log[0]) and pair[1] < len(log[1])]
            self.assertIn(real, loose.best)
            many += len(world) - len(real)
            self.assertEqual(world, sorted(world))
            self.assertEqual(len(wider.fit_lists["exits"]) - len(log[1]), loose.lack("entries", 1))
            self.assertEqual(len(wider.fit_lists["entries"]) - len(log[0]), loose.lack("exits", 1))
        self.assertGreater(many, 50)

    def test_large_logs_with_trusts_of_few_levels(self):
        # What all best worlds have in common is in the best worlds that are found from other starts, too.
        random = Random(86)
        for kinds, log in large_logs(15):
            changed = (log[0][::2], log[1][7:], *log[2:])
            trusts = random_trusts(random, changed)
            net, ranks = net_of(kinds, changed), ranks_of(trusts)
            certain = sure_pairs(kinds, changed, trusts)
            for _ in range(5):
                start = random.sample(reference.all_pairs(changed), 1)
                self.assertLessEqual(set(certain), set(find_best_world(net, ranks, start)))


if __name__ == "__main__":
    unittest.main()
