import unittest
from itertools import product
from random import Random

from gatepairs.errors import Contradiction
from gatepairs.levels import is_level_table, is_sharp, level_table
from tests import reference
from tests.case import Case
from tests.samples import (
    CAR,
    LOG,
    ODD,
    SHORT,
    WITHOUT_WORLD,
    busy_logs,
    cars,
    large_logs,
    later,
    shuffled,
    small_logs,
    spoilt,
    tight_log,
)

TOP = 10 ** 6


class LevelTest(Case):
    def judge(self, kinds, log, value):
        """What the two judges say of the value, as they should."""
        table, sharp = reference.is_level_table(kinds, log, value), reference.is_sharp(kinds, log, value)
        self.check(is_level_table, table, kinds, log, value)
        self.check(is_sharp, sharp, kinds, log, value)
        return table, sharp

    def check_both(self, expected, kinds, log, *values):
        for value in values:
            self.assertEqual(self.judge(kinds, log, value), (expected, expected), value)


class FindTest(LevelTest):
    def test_examples(self):
        self.assertIs(is_sharp(CAR, LOG, level_table(CAR, LOG)), True)
        self.assertIs(is_level_table(CAR, LOG, ([(0, 0)], [1, 3], [1, 3], 3)), True)
        self.assertIs(is_level_table(CAR, LOG, ([(0, 0)], [4, 3], [4, 3], 3)), False)
        self.assertIs(is_sharp(CAR, LOG, ([(0, 0)], [1, 3], [1, 3], 3)), True)
        self.assertIs(is_sharp(CAR, LOG, ([(0, 0)], [3, 3], [3, 3], 3)), False)

    def test_small_logs(self):
        count = 0
        for kinds, log in [*small_logs(900), *busy_logs(200)]:
            if reference.worlds(kinds, log):
                self.check_both(True, kinds, log, self.result(level_table, kinds, log))
                count += 1
            else:
                self.check_contradiction(level_table, kinds, log)
        self.assertGreater(count, 300)

    def test_contradictory_logs(self):
        for log in WITHOUT_WORLD:
            self.check_contradiction(level_table, CAR, log)

    def test_no_lines(self):
        for floors in product((0, 10 ** 9, "closed"), repeat=2):
            log = ([], [], *floors)
            self.check_both(True, CAR, log, self.result(level_table, CAR, log), ([], [], [], 0), ([], [], [], TOP))
            self.check_both(False, CAR, log, ([], [], [], TOP + 1), ([], [], [], -1))
            self.check_both(False, CAR, log, ([], [0], [], 0), ([], [], [0], 0))

    def test_one_world_of_many_lines(self):
        found = self.result(level_table, SHORT, tight_log())
        self.assertTrue(is_level_table(SHORT, tight_log(), found) and is_sharp(SHORT, tight_log(), found))
        # Entry i fits the exit i + 1, which is not possible, so the levels descend strictly.
        self.assertEqual(found[1], found[2])
        self.assertEqual(len(set(found[1])), 80)
        self.assertEqual(found[1], sorted(found[1], reverse=True))

    def test_many_equal_lines(self):
        for floors in product((0, 11, "closed"), repeat=2):
            log = (cars([20] * 80), cars([27] * 80), *floors)
            found = self.result(level_table, CAR, log)
            self.assertTrue(is_level_table(CAR, log, found) and is_sharp(CAR, log, found))
            self.assertEqual(len(set(found[1] + found[2])), 1)
            # If both gates are open, each line may be open, too, and so it has the level outside.
            self.assertEqual("closed" not in floors, found[3] in found[1])

    def test_large_logs(self):
        count = 0
        for kinds, log in large_logs(50):
            try:
                found = self.result(level_table, kinds, log)
            except Contradiction:
                self.check_contradiction(level_table, kinds, log)
                continue
            count += 1
            self.assertTrue(is_level_table(kinds, log, found) and is_sharp(kinds, log, found))
        self.assertGreater(count, 10)

    def test_another_order_and_later_times(self):
        random = Random(18)
        for kinds, log in [*small_logs(200), *busy_logs(100)]:
            if reference.worlds(kinds, log):
                world, entry_levels, exit_levels, outside = level_table(kinds, log)
                self.assertTrue(is_sharp(kinds, later(log, 5000), (world, entry_levels, exit_levels, outside)))
                other, (entries, exits) = shuffled(random, log)
                moved = sorted((entries.index(entry), exits.index(leaving)) for entry, leaving in world)
                levels = [entry_levels[old] for old in entries], [exit_levels[old] for old in exits]
                self.assertTrue(is_sharp(kinds, other, (moved, *levels, outside)))


class JudgeTest(LevelTest):
    def test_all_small_tables(self):
        counts = [0, 0, 0]
        logs = [(kinds, log) for kinds, log in [*small_logs(1000), *busy_logs(100)] if reference.worlds(kinds, log)]
        for size, levels in ((1, range(4)), (2, range(3)), (3, range(3)), (4, range(2))):
            chosen = [(kinds, log) for kinds, log in logs if len(log[0]) + len(log[1]) == size]
            for kinds, log in chosen[:40]:
                for world, values in product(reference.worlds(kinds, log), product(levels, repeat=size + 1)):
                    table = (world, list(values[:len(log[0])]), list(values[len(log[0]):-1]), values[-1])
                    counts[sum(self.judge(kinds, log, table))] += 1
        self.assertGreater(min(counts), 30)

    def test_levels_from_0_to_a_million(self):
        for low, high in ((0, TOP), (TOP - 1, TOP), (0, 1), (5, 6)):
            self.check_both(True, CAR, LOG, ([(0, 0)], [low, high], [low, high], high))
        for wrong in (-1, TOP + 1, 10 ** 5000, True, False, None, "1", (1,), [1], {}):
            self.check_both(False, CAR, LOG, ([(0, 0)], [wrong, TOP], [wrong, TOP], TOP))
            self.check_both(False, CAR, LOG, ([(0, 0)], [0, wrong], [0, wrong], wrong))
            self.check_both(False, CAR, LOG, ([(0, 0)], [0, 1], [0, 1], wrong))
        self.check_both(False, CAR, LOG, ([(0, 0)], [-1, 3], [-1, 3], 3), ([(0, 0)], [-2, -1], [-2, -1], -1))

    def test_number_of_levels(self):
        self.check_both(True, CAR, LOG, ([(0, 0)], [1, 3], [1, 3], 3))
        for wrong in ([], [1], [1, 3, 3], [1, 3, 3, 3], (1, 3), None, 1, {0: 1, 1: 3}, [[1, 3]]):
            self.check_both(False, CAR, LOG, ([(0, 0)], wrong, [1, 3], 3), ([(0, 0)], [1, 3], wrong, 3))
        # One entry and three exits.
        log = (cars([0]), cars([5, 20, 21]), 0, 0)
        self.check_both(True, CAR, log, ([(0, 0)], [4], [4, 4, 4], 4))
        self.check_both(False, CAR, log, ([(0, 0)], [4, 4], [4, 4], 4), ([(0, 0)], [4, 4, 4], [4], 4))

    def test_each_condition(self):
        # The two lines of a tuple have equal levels.
        log = (cars([0]), cars([5]), "closed", "closed")
        self.check_both(True, CAR, log, ([(0, 0)], [7], [7], 0), ([(0, 0)], [7], [7], 9), ([(0, 0)], [7], [7], 7))
        self.check_both(False, CAR, log, ([(0, 0)], [7], [6], 0), ([(0, 0)], [6], [7], 0))
        # An open line has the level outside.
        log = (cars([0]), [], 0, 0)
        self.check_both(True, CAR, log, ([], [7], [], 7))
        self.check_both(False, CAR, log, ([], [7], [], 6), ([], [7], [], 8))
        log = ([], cars([5]), 0, 0)
        self.check_both(True, CAR, log, ([], [], [7], 7))
        self.check_both(False, CAR, log, ([], [], [7], 6), ([], [], [7], 8))
        # An entry that fits an exit is on no lower level.
        log = (cars([1, 0]), cars([6, 11]), 0, "closed")
        world = [(0, 1), (1, 0)]
        self.check_both(True, CAR, log, (world, [8, 7], [7, 8], 9))
        self.check_both(False, CAR, log, (world, [7, 8], [8, 7], 9))
        # An entry that may be open is on no lower level than the outside, and an exit that may be is on no higher one.
        log = (cars([10]), cars([16]), 12, 0)
        self.check_both(True, CAR, log, ([(0, 0)], [8], [8], 7))
        self.check_both(False, CAR, log, ([(0, 0)], [8], [8], 9))
        self.assertEqual(self.judge(CAR, log, ([(0, 0)], [8], [8], 8)), (True, False))
        log = (cars([0]), cars([6]), 0, 11)
        self.check_both(True, CAR, log, ([(0, 0)], [8], [8], 9))
        self.check_both(False, CAR, log, ([(0, 0)], [8], [8], 7))
        self.assertEqual(self.judge(CAR, log, ([(0, 0)], [8], [8], 8)), (True, False))

    def test_not_sharp_because_of_a_pair(self):
        log = (cars([1, 0]), cars([6, 11]), "closed", "closed")
        world = [(0, 1), (1, 0)]
        # The lines 0 of the two gates fit, but in no world they are a pair.
        self.assertEqual(self.judge(CAR, log, (world, [5, 5], [5, 5], 0)), (True, False))
        self.assertEqual(self.judge(CAR, log, (world, [5, 4], [4, 5], 0)), (True, True))
        # If the gates are closed, nobody may be open on the level outside.
        self.assertEqual(self.judge(CAR, log, (world, [5, 4], [4, 5], 5)), (True, True))

    def test_not_sharp_because_of_a_line(self):
        self.assertEqual(self.judge(CAR, LOG, ([(0, 0)], [3, 3], [3, 3], 3)), (True, False))
        self.assertEqual(self.judge(CAR, LOG, ([(0, 0)], [2, 3], [2, 3], 3)), (True, True))

    def test_other_worlds(self):
        levels = [1, 3], [1, 3], 3
        self.check_both(True, CAR, LOG, ([(0, 0)], *levels), ([(0, 0), (1, 1)], *levels))
        wrong = [[], [(1, 1)], [(0, 1)], [(0, 0), (0, 0)], [(1, 1), (0, 0)], [[0, 0]], ((0, 0),), [(False, 0)]]
        wrong += [None, {}]
        self.check_both(False, CAR, LOG, *[(world, *levels) for world in wrong])

    def test_forms(self):
        right = ([(0, 0)], [1, 3], [1, 3], 3)
        wrong = [list(right), right[:3], (*right, 3), (*right, None), (right,), right[1:], right[::-1], (), [right]]
        self.check_both(False, CAR, LOG, *wrong)

    def test_other_values(self):
        for log in (LOG, ([], [], 0, 0), (cars([0]), cars([5]), "closed", "closed"), *WITHOUT_WORLD):
            self.check_both(False, CAR, log, *ODD)

    def test_values_that_are_wrong_in_one_part(self):
        for log in (LOG, (cars([0, 1]), cars([6, 7]), "closed", "closed"), (cars([10]), cars([16]), 12, 0)):
            for value in spoilt(level_table(CAR, log)):
                self.judge(CAR, log, value)

    def test_contradictory_logs(self):
        for log in WITHOUT_WORLD:
            entries, exits = len(log[0]), len(log[1])
            for world in reference.subsets(reference.all_pairs(log)):
                self.check_both(False, CAR, log, (world, [0] * entries, [0] * exits, 0))


class NamesTest(unittest.TestCase):
    def test_arguments_by_name(self):
        found = level_table(kinds=CAR, log=LOG)
        self.assertIs(is_level_table(kinds=CAR, log=LOG, value=found), True)
        self.assertIs(is_sharp(kinds=CAR, log=LOG, value=found), True)

    def test_functions_are_defined_in_this_file(self):
        for function in (level_table, is_level_table, is_sharp):
            self.assertEqual(function.__module__, "gatepairs.levels")


if __name__ == "__main__":
    unittest.main()
