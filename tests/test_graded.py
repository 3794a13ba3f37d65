import unittest
from itertools import product
from random import Random

from gatepairs.graded import graded_repair, is_best_world, is_graded_repair
from gatepairs.repairs import repair
from gatepairs.shortages import lacks
from gatepairs.worlds import is_world
from tests import reference
from tests.case import Case
from tests.loose import THRESHOLDS, Loose, crowded_logs, random_trusts, with_trusts
from tests.samples import (
    CAR,
    GATES,
    LOG,
    ODD,
    SHORT,
    WITHOUT_WORLD,
    busy_logs,
    cars,
    large_logs,
    same,
    small_logs,
    spoilt,
    tight_log,
)

EXAMPLE = (cars([0, 1]), cars([6]), 0, "closed")
# The entries 0 to 2 fit the exit 0 only, and the exits 1 to 3 fit the entry 3 only.
BOTH = (cars([0, 1, 1, 50]), cars([6, 55, 56, 57]), "closed", "closed")
BOTH_TRUSTS = ([2, 7, 7, 1], [9, 3, 9, 4])


def ignored_counts(ignored, trusts):
    """For each threshold, the number of these lines that count there."""
    return [len([number for number in ignored if trusts[number] >= threshold]) for threshold in THRESHOLDS]


class GradedCase(Case):
    def mend(self, kinds, log, trusts):
        """A graded repair of the log, which the judges accept."""
        found = self.result(graded_repair, kinds, log, trusts)
        self.check(is_graded_repair, True, kinds, log, trusts, found)
        self.check(is_best_world, True, kinds, log, trusts, found[2])
        counts = [ignored_counts(found[place], trusts[place]) for place in range(2)]
        self.assertEqual(tuple(counts), lacks(kinds, log, trusts))
        return found


class GradedRepairTest(GradedCase):
    def test_example(self):
        found = self.mend(CAR, EXAMPLE, ([3, 8], [5]))
        self.assertTrue(same(found[:3], ([0], [], [(1, 0)])))
        self.assertTrue(same(found[3][:4], [[0, 1], [0, 1], [0, 1], []]))
        wrong = ([1], [], [(0, 0)], [[0, 1]] * 9, [[]] * 9)
        self.check(is_graded_repair, False, CAR, EXAMPLE, ([3, 8], [5]), wrong)

    def test_small_logs(self):
        found = []
        for kinds, log, trusts in with_trusts([*small_logs(400), *busy_logs(100), *crowded_logs(500)], 2):
            loose = Loose(kinds, log, trusts)
            value = self.mend(kinds, log, trusts)
            self.assertTrue(loose.is_graded_repair(value), (kinds, log, trusts))
            found.append((len(value[0]), len(value[1])))
        for counts in ((0, 0), (0, 1), (1, 0), (1, 1), (2, 0), (0, 2), (2, 1), (1, 2), (3, 0), (0, 3)):
            self.assertGreater(found.count(counts), 5, counts)

    def test_consistent_logs(self):
        for log in (LOG, ([], [], 0, 0), ([], [], "closed", "closed"), (cars([0]), cars([5]), "closed", "closed")):
            for trust in (1, 5, 9):
                found = self.mend(CAR, log, tuple([trust] * len(lines) for lines in log[:2]))
                self.assertTrue(same((found[:2], found[3:]), (([], []), ([[]] * 9, [[]] * 9))))
                self.check(is_world, True, CAR, log, found[2])

    def test_contradictory_at_one_gate(self):
        log = (cars([0, 1, 50]), cars([6, 57]), 0, "closed")
        for first, second in product(THRESHOLDS, repeat=2):
            found = self.mend(CAR, log, ([first, second, 1], [1, 1]))
            if first != second:
                self.assertEqual(found[0], [0 if first < second else 1])
            self.assertEqual(found[1], [])
            is_short = [threshold <= min(first, second) for threshold in THRESHOLDS]
            self.assertEqual([len(shortage) > 0 for shortage in found[3]], is_short)
        found = self.mend(CAR, (cars([0, 50]), cars([6, 7, 8, 57]), "closed", 0), ([5, 5], [4, 2, 9, 1]))
        self.assertEqual(found[:3], ([], [0, 1], [(0, 2), (1, 3)]))
        found = self.mend(CAR, (cars([0, 50]), cars([6, 7, 8, 57]), "closed", 0), ([5, 5], [4, 9, 2, 1]))
        self.assertEqual(found[:3], ([], [0, 2], [(0, 1), (1, 3)]))

    def test_contradictory_at_both_gates(self):
        found = self.mend(CAR, BOTH, BOTH_TRUSTS)
        self.assertIn(found[:3], [([0, 2], [1, 3], [(1, 0), (3, 2)]), ([0, 1], [1, 3], [(2, 0), (3, 2)])])

    def test_open_gates(self):
        # Only must lines are ignored, and lines that may be open are left to those that need them.
        for floor, expected in ((12, ([], [], [(0, 0)])), ("closed", ([0], [], [(1, 0)]))):
            found = self.mend(CAR, (cars([0, 5]), cars([10]), "closed", floor), ([1, 9], [9]))
            self.assertEqual(found[:3], expected)
        found = self.mend(CAR, (cars([10]), cars([15, 16]), 11, "closed"), ([1], [1, 9]))
        self.assertEqual(found[:3], ([], [], [(0, 0)]))
        found = self.mend(CAR, (cars([10]), cars([15, 16]), 12, "closed"), ([1], [1, 9]))
        self.assertEqual(found[:3], ([], [0], [(0, 1)]))

    def test_trusts_go_ahead_of_numbers(self):
        # One entry of trust 9 is worth more than all others together, but the others are not given up for nothing.
        log = (cars([0, 3, 3]), cars([6, 13]), "closed", "closed")
        self.assertIn(self.mend(CAR, log, ([9, 1, 1], [5, 5]))[:2], [([1], []), ([2], [])])
        self.assertEqual(self.mend(CAR, log, ([1, 9, 8], [5, 5]))[:2], ([2], []))
        log = (cars([3, 0, 0, 0]), cars([6, 10]), "closed", "closed")
        self.assertEqual(self.mend(CAR, log, ([9, 1, 1, 2], [5, 5]))[:3], ([1, 2], [], [(0, 1), (3, 0)]))
        self.assertEqual(self.mend(CAR, log, ([1, 7, 8, 9], [5, 5]))[:2], ([0, 1], []))
        # The exits 1 and 2 fit the entry 0 only, and the entries 0 and 1 fit the exit 0.
        log = (cars([10, 5]), cars([15, 18, 20]), "closed", "closed")
        self.assertEqual(self.mend(CAR, log, ([5, 5], [1, 9, 1]))[:3], ([], [2], [(0, 1), (1, 0)]))
        self.assertEqual(self.mend(CAR, log, ([5, 5], [9, 1, 2]))[:3], ([], [1], [(0, 2), (1, 0)]))

    def test_what_one_gate_ignores_costs_the_other_one_nothing(self):
        # The best choice of the entries, 0, and the best choice of the exits, 1, do not fit each other.
        log = (cars([0, 10]), cars([10, 20]), "closed", "closed")
        for trusts in (([9, 1], [1, 9]), ([1, 9], [9, 1])):
            self.assertEqual(self.mend(CAR, log, trusts)[:3], ([], [], [(0, 0), (1, 1)]))
        log = (cars([0, 0, 10]), cars([10, 15, 15]), "closed", "closed")
        self.assertEqual(self.mend(CAR, log, ([9, 1, 2], [1, 9, 2]))[:3], ([1], [2], [(0, 0), (2, 1)]))
        self.assertEqual(self.mend(CAR, log, ([1, 9, 2], [1, 2, 9]))[:3], ([0], [1], [(1, 0), (2, 2)]))

    def test_lines_that_fit_nothing(self):
        log = (cars([0, 1, 2]), cars([500, 600]), "closed", "closed")
        found = self.mend(CAR, log, ([3, 9, 1], [2, 2]))
        self.assertEqual(found[:3], ([0, 1, 2], [0, 1], []))
        self.assertEqual(found[3], [[0, 1, 2], [0, 1], [0, 1], *[[1]] * 6])
        self.assertEqual(found[4], [[0, 1], [0, 1], *[[]] * 7])
        found = self.mend(CAR, (cars([0], "A"), cars([5], "B"), "closed", "closed"), ([9], [1]))
        self.assertEqual(found, ([0], [0], [], [[0]] * 9, [[0], *[[]] * 8]))

    def test_logs_without_lines(self):
        for floors in product((0, 5, "closed"), repeat=2):
            self.assertEqual(self.mend(CAR, ([], [], *floors), ([], [])), ([], [], [], [[]] * 9, [[]] * 9))

    def test_equal_trusts(self):
        # Point 31: best repairs are the ignored lines of repairs then.
        for number, (kinds, log) in enumerate([*small_logs(200), *crowded_logs(200)]):
            trusts = tuple([1 + number % 9] * len(lines) for lines in log[:2])
            found = self.mend(kinds, log, trusts)
            other = repair(kinds, log)
            self.assertEqual([len(found[0]), len(found[1])], [len(other[0]), len(other[1])])
            self.assertIs(is_best_world(kinds, log, trusts, other[2]), True)

    def test_many_equal_lines(self):
        random = Random(65)
        for entries, exits in product((0, 1, 40, 79, 80), repeat=2):
            log = (cars([0] * entries), cars([7] * exits), "closed", "closed")
            trusts = tuple([random.randint(1, 9) for _ in lines] for lines in log[:2])
            found = self.mend(CAR, log, trusts)
            for place, others in ((0, exits), (1, entries)):
                order = sorted(trusts[place])
                ignored = sorted(trusts[place][number] for number in found[place])
                self.assertEqual(ignored, order[: max(0, len(order) - others)])

    def test_one_world_of_many_lines(self):
        entries, exits, *floors = tight_log()
        log = (entries, exits[1:], *floors)
        for place in range(80):
            trusts = [2 if number == place else 3 for number in range(80)]
            found = self.mend(SHORT, log, (trusts, [5] * 79))
            self.assertEqual(found[:2], ([place], []))
        found = self.mend(SHORT, (entries[:-1], exits, *floors), ([5] * 79, list(range(1, 10)) * 8 + [2] * 8))
        self.assertEqual(len(found[1]), 1)
        self.assertEqual(found[1][0] % 9, 0)

    def test_large_logs(self):
        random = Random(66)
        ignored = []
        for kinds, log in large_logs(40):
            for lines in ((log[0], log[1]), (log[0][::2], log[1]), (log[0], log[1][10:]), (log[0][9:], log[1][::3])):
                changed = (*lines, *log[2:])
                found = self.mend(kinds, changed, random_trusts(random, changed))
                ignored.append((len(found[0]), len(found[1])))
        self.assertGreater(len([counts for counts in ignored if 0 in counts]), 20)
        self.assertGreater(len([counts for counts in ignored if 0 not in counts]), 20)


class BestWorldTest(Case):
    def test_example(self):
        self.check(is_best_world, True, CAR, EXAMPLE, ([3, 8], [5]), [(1, 0)])
        self.check(is_best_world, False, CAR, EXAMPLE, ([3, 8], [5]), [(0, 0)])
        for trust in THRESHOLDS:
            self.check(is_best_world, True, CAR, EXAMPLE, ([trust, trust], [5]), [(0, 0)])
            self.check(is_best_world, True, CAR, EXAMPLE, ([trust, trust], [5]), [(1, 0)])

    def test_all_values_for_small_logs(self):
        right = wrong = 0
        for kinds, log, trusts in with_trusts([*small_logs(200), *busy_logs(60), *crowded_logs(200)], 3):
            pairs = reference.all_pairs(log)
            best = Loose(kinds, log, trusts).best
            if len(pairs) <= 6:
                worlds = reference.subsets(pairs)
            else:
                worlds = Loose(kinds, log, trusts).worlds
            for world in worlds:
                expected = world in best
                self.assertIs(is_best_world(kinds, log, trusts, world), expected)
                right += expected
                wrong += not expected
        self.assertTrue(right > 500 and wrong > 1000)

    def test_best_for_one_gate_only(self):
        log = (cars([0, 0, 50]), cars([6, 55, 55]), "closed", "closed")
        trusts = ([3, 8, 5], [5, 3, 8])
        self.check(is_best_world, True, CAR, log, trusts, [(1, 0), (2, 2)])
        wrong = [[(0, 0), (2, 2)], [(1, 0), (2, 1)], [(1, 0)], [(2, 2)]]
        self.check_values(is_best_world, False, wrong, CAR, log, trusts)

    def test_best_at_one_threshold_only(self):
        # At the thresholds up to 8, each of the first two entries is as good as the other one.
        log = (cars([10, 5, 20]), cars([15]), "closed", "closed")
        self.check(is_best_world, True, CAR, log, ([9, 8, 8], [1]), [(0, 0)])
        self.check(is_best_world, False, CAR, log, ([9, 8, 8], [1]), [(1, 0)])
        self.check(is_best_world, True, CAR, log, ([9, 9, 8], [1]), [(1, 0)])
        self.check(is_best_world, False, CAR, log, ([8, 9, 8], [1]), [(0, 0)])

    def test_worlds_of_consistent_logs(self):
        for kinds, log, trusts in with_trusts([*small_logs(200), *busy_logs(60)], 4):
            worlds = reference.worlds(kinds, log)
            for world in Loose(kinds, log, trusts).worlds if worlds else []:
                self.assertIs(is_best_world(kinds, log, trusts, world), world in worlds)

    def test_forms(self):
        trusts = ([5, 5, 5, 5], [5, 5, 5, 5])
        self.check(is_best_world, True, CAR, BOTH, trusts, [(0, 0), (3, 2)])
        wrong = [[(3, 2), (0, 0)], [(0, 0), (0, 0), (3, 2)], [(0, 0)], [], [(0, 0), (1, 0), (3, 2)]]
        wrong += [[(0, 0), (3, 1), (3, 2)], [[0, 0], [3, 2]], ((0, 0), (3, 2)), [(0, False), (3, 2)]]
        wrong += [[(False, 0), (3, 2)], [(0, 0), (3, 2), (3, 3)], [(0, 0), (3, 2), (4, 0)], [(0, 0), (3, 4)]]
        wrong += [[(-1, 0), (3, 2)], [(0, 0, 0), (3, 2)], [(0,), (3, 2)], None, [(0, 0), (3, 2), None]]
        wrong += [{(0, 0): 1, (3, 2): 1}, ([(0, 0), (3, 2)],), [[(0, 0), (3, 2)]], [(0, 1), (3, 2)]]
        self.check_values(is_best_world, False, wrong, CAR, BOTH, trusts)

    def test_other_values(self):
        for log in (EXAMPLE, LOG, BOTH, *WITHOUT_WORLD[2:]):
            trusts = tuple([5] * len(lines) for lines in log[:2])
            self.check_values(is_best_world, False, ODD, CAR, log, trusts)
            for value in spoilt(graded_repair(CAR, log, trusts)[2]):
                expected = reference.is_one_of(value, Loose(CAR, log, trusts).best)
                self.check(is_best_world, expected, CAR, log, trusts, value)
        for log in WITHOUT_WORLD[:2]:
            # Here there is nothing but the empty world.
            trusts = tuple([5] * len(lines) for lines in log[:2])
            self.check(is_best_world, True, CAR, log, trusts, [])
            self.check_values(is_best_world, False, ODD, CAR, log, trusts)


class JudgeTest(Case):
    def test_all_values_for_small_logs(self):
        right = wrong = 0
        random = Random(67)
        for kinds, log, trusts in with_trusts([*small_logs(120), *crowded_logs(60)], 5):
            loose = Loose(kinds, log, trusts)
            found = graded_repair(kinds, log, trusts)
            lists = [reference.subsets(range(len(lines))) for lines in log[:2]]
            for _ in range(40):
                value = list(found)
                for _ in range(random.randrange(1, 3)):
                    place = random.randrange(5)
                    if place == 2:
                        value[2] = random.choice(loose.worlds)
                        if random.randrange(2):
                            value[:2] = [loose.ignored(gate, value[2]) for gate in GATES]
                    elif place < 2:
                        value[place] = random.choice(lists[place])
                    else:
                        value[place] = list(value[place])
                        value[place][random.randrange(9)] = random.choice(lists[place - 3])
                expected = loose.is_graded_repair(tuple(value))
                self.assertIs(is_graded_repair(kinds, log, trusts, tuple(value)), expected)
                right += expected
                wrong += not expected
        self.assertTrue(right > 500 and wrong > 1000)

    def test_other_shortages_that_are_as_good(self):
        # The entry 2 fits an exit of its own. It may be in the shortages or not.
        log = (cars([0, 1, 50]), cars([6, 57]), 0, "closed")
        trusts = ([3, 8, 5], [5, 5])
        right = ([0], [], [(1, 0), (2, 1)], [[0, 1]] * 3 + [[]] * 6, [[]] * 9)
        self.check(is_graded_repair, True, CAR, log, trusts, right)
        for place in range(9):
            for shortage in ([], [0], [1], [2], [0, 1], [0, 2], [1, 2], [0, 1, 2]):
                shortages = [*right[3][:place], shortage, *right[3][place + 1 :]]
                counts = [number for number in shortage if trusts[0][number] > place]
                size = len(shortage) - (0 in shortage or 1 in shortage) - (2 in shortage)
                expected = counts == shortage and size == (1 if place < 3 else 0)
                self.check(is_graded_repair, expected, CAR, log, trusts, (*right[:3], shortages, right[4]))

    def test_two_things_wrong_at_once(self):
        # What is ignored is too much, and so are the shortages, but one shows the other.
        log = (cars([0, 1]), cars([6, 7]), "closed", "closed")
        trusts = ([5, 5], [5, 5])
        right = ([], [], [(0, 0), (1, 1)], [[]] * 9, [[]] * 9)
        self.check(is_graded_repair, True, CAR, log, trusts, right)
        one = [[0, 1]] * 5 + [[]] * 4
        wrong = [([1], [1], [(0, 0)], one, one), ([1], [1], [(0, 0)], [[1]] * 9, [[1]] * 9)]
        wrong += [([0], [0], [(1, 1)], one, one), ([0, 1], [0, 1], [], one, one)]
        wrong += [([0], [], [(0, 0), (1, 1)], one, [[]] * 9), ([], [], [], [[]] * 9, one)]
        self.check_values(is_graded_repair, False, wrong, CAR, log, trusts)
        # The entry 0 is trusted less, so nobody may ignore the entry 1 instead, whatever the shortages are.
        trusts = ([3, 8], [5])
        for first in ([0, 1], [1], [], [0]):
            for second in ([1], []):
                value = ([1], [], [(0, 0)], [first] * 3 + [second] * 6, [[]] * 9)
                self.check(is_graded_repair, False, CAR, EXAMPLE, trusts, value)

    def test_one_thing_changed(self):
        right = ([0, 2], [1, 3], [(1, 0), (3, 2)], [[0, 1, 2]] * 2 + [[1, 2]] * 5 + [[]] * 2)
        right = (*right, [[1, 2, 3]] * 3 + [[2, 3]] + [[]] * 5)
        self.check(is_graded_repair, True, CAR, BOTH, BOTH_TRUSTS, right)
        other = ([0, 1], [1, 3], [(2, 0), (3, 2)], *right[3:])
        self.check(is_graded_repair, True, CAR, BOTH, BOTH_TRUSTS, other)
        lists = [[], [0], [2], [1, 2], [0, 1], [2, 0], [0, 2, 2], [0, 2, 3], [False, 2], [0, 4], (0, 2), None]
        lists += [[[0, 2]], {0: 2}]
        wrong = [(value, *right[1:]) for value in lists]
        lists = [[], [1], [3], [1, 2], [2, 3], [3, 1], [1, 1, 3], [True, 3], [1, 3, 4], (1, 3), None, 1, [0, 1, 3]]
        lists += [[-1, 1, 3]]
        wrong += [(right[0], value, *right[2:]) for value in lists]
        worlds = [[], [(1, 0)], [(3, 2)], [(2, 0), (3, 2)], [(0, 0), (3, 2)], [(1, 0), (3, 1)], [(3, 2), (1, 0)]]
        worlds += [[[1, 0], [3, 2]], ((1, 0), (3, 2)), [(1, 0), (3, 2), (3, 2)], [(True, 0), (3, 2)]]
        worlds += [[(1, 0), (2, 0), (3, 2)], None]
        wrong += [(*right[:2], value, *right[3:]) for value in worlds]
        for place in (3, 4):
            lists = [right[place][:8], [*right[place], []], tuple(right[place]), [], None, right[place][::-1]]
            lists += [[None] * 9, [[]] * 9, [list(range(4))] * 9]
            lists += [{number: value for number, value in enumerate(right[place])}]
            wrong += [(*right[:place], value, *right[place + 1 :]) for value in lists]
        self.check_values(is_graded_repair, False, wrong, CAR, BOTH, BOTH_TRUSTS)
        for place, at in product((3, 4), range(9)):
            lists = [(0, 1, 2), [2, 1, 0], [0, 0, 1, 2], [False, 1, 2], [1, True], [0, 1, 2, 4], [-1], [0, 1, 2, 3]]
            lists += [None, 0, [3], [1, 2, 2], (), {}, [None], [[]], "", [0]]
            for value in lists:
                shortages = [*right[place][:at], value, *right[place][at + 1 :]]
                changed = (*right[:place], shortages, *right[place + 1 :])
                self.check(is_graded_repair, False, CAR, BOTH, BOTH_TRUSTS, changed)

    def test_forms(self):
        right = graded_repair(CAR, BOTH, BOTH_TRUSTS)
        wrong = [right[:4], right[1:], (*right, []), (*right, None), list(right), (right,), [right], (), [], right[:3]]
        wrong += [(right[1], right[0], *right[2:]), (*right[:3], right[4], right[3]), (*right[3:], *right[:3])]
        self.check_values(is_graded_repair, False, wrong, CAR, BOTH, BOTH_TRUSTS)

    def test_other_values(self):
        for log in (LOG, EXAMPLE, BOTH, ([], [], 0, 0), *WITHOUT_WORLD):
            trusts = tuple([5] * len(lines) for lines in log[:2])
            self.check_values(is_graded_repair, False, ODD, CAR, log, trusts)

    def test_values_that_are_wrong_in_one_part(self):
        for log in (LOG, EXAMPLE, ([], [], 0, 0), WITHOUT_WORLD[3]):
            trusts = tuple([2, 7, 7][: len(lines)] for lines in log[:2])
            loose = Loose(CAR, log, trusts)
            for value in spoilt(graded_repair(CAR, log, trusts)):
                self.check(is_graded_repair, loose.is_graded_repair(value), CAR, log, trusts, value)


class InterfaceTest(unittest.TestCase):
    def test_arguments_by_name(self):
        found = graded_repair(trusts=([3, 8], [5]), log=EXAMPLE, kinds=CAR)
        self.assertIs(is_graded_repair(value=found, trusts=([3, 8], [5]), kinds=CAR, log=EXAMPLE), True)
        self.assertIs(is_best_world(value=found[2], trusts=([3, 8], [5]), kinds=CAR, log=EXAMPLE), True)

    def test_functions_are_defined_in_this_file(self):
        for function in (graded_repair, is_graded_repair, is_best_world):
            self.assertEqual(function.__module__, "gatepairs.graded")


if __name__ == "__main__":
    unittest.main()
