import unittest
from random import Random

from gatepairs.graded import graded_repair
from gatepairs.shortages import is_trusts, lacks, shortage_size
from gatepairs.worlds import find_world
from tests import reference
from tests.case import Case
from tests.loose import Loose, crowded_logs, random_trusts, with_trusts
from tests.samples import (
    CAR,
    DEEP,
    GATES,
    LOG,
    ODD,
    SHORT,
    WITHOUT_WORLD,
    busy_logs,
    cars,
    large_logs,
    same,
    small_logs,
    spoilt,
    tight_log,
)

NONE = [0] * 9
EXAMPLE = (cars([0, 1]), cars([6]), 0, "closed")


def is_trust_list(value, lines):
    return type(value) is list and len(value) == len(lines) and all(type(n) is int and 1 <= n <= 9 for n in value)


def is_trusts_by_words(log, value):
    """Point 25 for any value."""
    return type(value) is tuple and len(value) == 2 and all(map(is_trust_list, value, log[:2]))


def lacking(*counts):
    """The list of lacks that begins with these ones and ends with zeros."""
    return [*counts, *NONE][:9]


class TrustsTest(Case):
    def test_right_values(self):
        for first in range(1, 10):
            for second in range(1, 10):
                self.check(is_trusts, True, EXAMPLE, ([first, second], [10 - first]))
        self.check(is_trusts, True, ([], [], 0, 0), ([], []))
        self.check(is_trusts, True, (cars([0]), [], 0, "closed"), ([7], []))
        self.check(is_trusts, True, ([], cars([0]), 0, "closed"), ([], [7]))
        large = tight_log()
        self.check(is_trusts, True, large, ([9] * 80, [1] * 80))
        self.check(is_trusts, False, large, ([9] * 79, [1] * 80))
        self.check(is_trusts, False, large, ([9] * 80, [1] * 81))
        self.check(is_trusts, False, large, ([9] * 80, [1] * 79 + [0]))

    def test_numbers(self):
        wrong = [0, 10, -1, 11, 10 ** 9, 10 ** 5000, True, False, None, "5", "", [5], (5,), {}, {5: 5}, *DEEP]
        for number in wrong:
            values = [([number, 5], [5]), ([5, number], [5]), ([5, 5], [number])]
            self.check_values(is_trusts, False, values, EXAMPLE)

    def test_forms(self):
        wrong = [([5, 5],), ([5, 5], [5], []), ([5, 5], [5], [5]), [[5, 5], [5]], ((5, 5), (5,)), ((5, 5), [5])]
        wrong += [([5, 5], (5,)), ([5], [5]), ([5, 5, 5], [5]), ([5, 5], []), ([5, 5], [5, 5]), ([], []), ([5], [5, 5])]
        wrong += [([[5, 5]], [5]), (([5, 5], [5]),), [([5, 5], [5])], {0: [5, 5], 1: [5]}, ("55", "5"), ([5, 5], None)]
        wrong += [({0: 5, 1: 5}, [5]), ([5, 5], {0: 5}), ([5, 5], 5), (), [], None, (5, 5, 5), [5, 5, 5]]
        self.check_values(is_trusts, False, wrong, EXAMPLE)

    def test_other_values(self):
        for log in (EXAMPLE, LOG, ([], [], 0, 0), *WITHOUT_WORLD):
            trusts = tuple([5] * len(lines) for lines in log[:2])
            self.check(is_trusts, True, log, trusts)
            for value in [*ODD, *spoilt(trusts)]:
                self.check(is_trusts, is_trusts_by_words(log, value), log, value)

    def test_lines_that_may_be_open_have_trusts_too(self):
        self.check(is_trusts, True, LOG, ([5, 5], [5, 5]))
        self.check_values(is_trusts, False, [([5], []), ([5, 0], [5, 5]), ([5, None], [5, 5]), ([5], [5, 5])], LOG)


class LacksTest(Case):
    def test_example(self):
        self.check(lacks, (lacking(1, 1, 1), NONE), CAR, EXAMPLE, ([3, 8], [5]))

    def test_small_logs(self):
        greatest = []
        for kinds, log, trusts in with_trusts([*small_logs(400), *busy_logs(100), *crowded_logs(500)]):
            found = self.result(lacks, kinds, log, trusts)
            self.assertTrue(same(found, Loose(kinds, log, trusts).lack_lists), (kinds, log, trusts))
            greatest.append(tuple(counts[0] for counts in found))
            self.assertEqual(found == (NONE, NONE), len(reference.worlds(kinds, log)) > 0)
        for counts in ((0, 0), (0, 1), (1, 0), (1, 1), (2, 0), (0, 2), (2, 1), (1, 2), (3, 0), (0, 3)):
            self.assertGreater(greatest.count(counts), 5, counts)

    def test_each_trust(self):
        # One entry and one exit too many, at every trust.
        for first in range(1, 10):
            for second in range(1, 10):
                log = (cars([0, 0, 50]), cars([5, 55, 56]), "closed", "closed")
                found = lacks(CAR, log, ([first, second, 1], [2, first, second]))
                expected = lacking(*[1] * min(first, second))
                self.assertTrue(same(found, (expected, expected)))

    def test_several_levels(self):
        log = (cars([0] * 6), cars([5, 6]), "closed", "closed")
        found = self.result(lacks, CAR, log, ([9, 1, 4, 4, 7, 9], [5, 5]))
        self.assertEqual(found, ([4, 3, 3, 3, 1, 1, 1, 0, 0], NONE))
        found = self.result(lacks, CAR, log, ([9] * 6, [1, 1]))
        self.assertEqual(found, ([4] * 9, NONE))
        found = self.result(lacks, CAR, (log[1], cars([11, 12, 13, 14]), "closed", "closed"), ([1, 1], [2, 9, 3, 9]))
        self.assertEqual(found, (NONE, lacking(2, 2, 1)))

    def test_open_and_closed_gates(self):
        trusts = ([7], [4])
        for floor, count in ((0, 0), (10, 0), (11, 1), (10 ** 9, 1), ("closed", 1)):
            self.check(lacks, (lacking(*[count] * 7), NONE), CAR, (cars([0]), [], 0, floor), ([7], []))
        for floor, count in ((0, 0), (2, 0), (3, 1), (10 ** 9, 1), ("closed", 1)):
            self.check(lacks, (NONE, lacking(*[count] * 4)), CAR, ([], cars([7]), floor, "closed"), ([], [4]))
        # Lines that do not fit lack partners at both gates, but only if they may not be open.
        log = (cars([0]), cars([40]), "closed", "closed")
        self.check(lacks, (lacking(*[1] * 7), lacking(*[1] * 4)), CAR, log, trusts)
        self.check(lacks, (NONE, lacking(*[1] * 4)), CAR, (*log[:3], 0), trusts)
        self.check(lacks, (lacking(*[1] * 7), NONE), CAR, (*log[:2], 0, "closed"), trusts)
        self.check(lacks, (NONE, NONE), CAR, (*log[:2], 0, 0), trusts)

    def test_trusts_of_lines_that_may_be_open(self):
        random = Random(61)
        changes = 0
        for kinds, log, trusts in with_trusts([*small_logs(300), *crowded_logs(200)], 1):
            others = random_trusts(random, log)
            for place, gate in enumerate(GATES):
                for number in reference.musts(kinds, log, gate):
                    others[place][number] = trusts[place][number]
            changes += others != trusts
            self.assertTrue(same(lacks(kinds, log, others), lacks(kinds, log, trusts)))
        self.assertGreater(changes, 200)

    def test_lines_that_may_be_open_take_no_partner_that_a_must_line_needs(self):
        # Only the entry 0 has to be paired, and both fit the only exit.
        log = (cars([0, 5]), cars([10]), "closed", 12)
        self.check(lacks, (NONE, NONE), CAR, log, ([1, 9], [1]))
        self.check(lacks, (lacking(1), NONE), CAR, (*log[:3], "closed"), ([1, 9], [1]))

    def test_logs_without_lines(self):
        for floors in ((0, 0), (0, "closed"), ("closed", 7), ("closed", "closed")):
            self.check(lacks, (NONE, NONE), CAR, ([], [], *floors), ([], []))

    def test_consistent_logs_lack_nothing(self):
        random = Random(62)
        self.check(lacks, (NONE, NONE), CAR, LOG, ([9, 9], [9, 9]))
        log = tight_log()
        self.check(find_world, [(number, number) for number in range(80)], SHORT, log)
        self.check(lacks, (NONE, NONE), SHORT, log, random_trusts(random, log))

    def test_large_logs(self):
        random = Random(63)
        found = []
        for kinds, log in large_logs(30):
            for lines in ((log[0], log[1]), (log[0][::2], log[1]), (log[0], log[1][20:])):
                changed = (*lines, *log[2:])
                trusts = random_trusts(random, changed)
                entry_lacks, exit_lacks = self.result(lacks, kinds, changed, trusts)
                _, _, world, *shortages = graded_repair(kinds, changed, trusts)
                for place, counts in enumerate((entry_lacks, exit_lacks)):
                    gate = GATES[place]
                    paired = [pair[place] for pair in world]
                    musts = reference.musts(kinds, changed, gate)
                    for threshold in range(1, 10):
                        counting = [number for number in musts if trusts[place][number] >= threshold]
                        ignored = [number for number in counting if number not in paired]
                        shortage = shortages[place][threshold - 1]
                        # A loose world that ignores as many lines, and a shortage of this size: it is the lack.
                        self.assertEqual(len(ignored), counts[threshold - 1])
                        self.assertLessEqual(set(shortage), set(counting))
                        self.assertEqual(shortage_size(kinds, changed, gate, shortage), counts[threshold - 1])
                    found.append(counts[0])
        self.assertTrue(found.count(0) > 10 and len(set(found)) > 10)

    def test_many_equal_lines(self):
        for entries, exits in ((80, 0), (0, 80), (80, 79), (79, 80), (80, 80), (80, 1), (80, 40)):
            log = (cars([0] * entries), cars([7] * exits), "closed", "closed")
            trusts = ([1 + number % 9 for number in range(entries)], [9 - number % 9 for number in range(exits)])
            found = self.result(lacks, CAR, log, trusts)
            for place, (own, other) in enumerate(((entries, exits), (exits, entries))):
                counts = [len([n for n in trusts[place] if n >= threshold]) for threshold in range(1, 10)]
                self.assertEqual(found[place], [max(0, count - other) for count in counts])
                self.assertEqual(found[place][0], max(0, own - other))


class SizeTest(Case):
    def test_example(self):
        self.check(shortage_size, 1, CAR, EXAMPLE, "entries", [0, 1])
        self.check(shortage_size, 0, CAR, EXAMPLE, "entries", [1])

    def test_empty_lists(self):
        for log in (EXAMPLE, LOG, ([], [], 0, 0), tight_log()):
            for gate in GATES:
                self.check(shortage_size, 0, CAR, log, gate, [])

    def test_negative_sizes(self):
        log = (cars([0]), cars([5, 6, 7, 10, 11]), 0, 0)
        self.check(shortage_size, -3, CAR, log, "entries", [0])
        self.check(shortage_size, 3, CAR, log, "exits", [0, 1, 2, 3])
        self.check(shortage_size, 4, CAR, log, "exits", [0, 1, 2, 3, 4])
        self.check(shortage_size, 1, CAR, log, "exits", [4])
        log = (cars([0]), cars([7] * 80), 0, 0)
        self.check(shortage_size, -79, CAR, log, "entries", [0])
        self.check(shortage_size, 79, CAR, log, "exits", list(range(80)))

    def test_all_lists_of_small_logs(self):
        sizes = []
        for kinds, log in [*small_logs(150), *busy_logs(40), *crowded_logs(60)]:
            for place, gate in enumerate(GATES):
                for numbers in reference.subsets(range(len(log[place]))):
                    expected = reference.size(kinds, log, gate, numbers)
                    self.check(shortage_size, expected, kinds, log, gate, numbers)
                    sizes.append(expected)
        for size in (-2, -1, 0, 1, 2, 3):
            self.assertGreater(sizes.count(size), 20)

    def test_large_logs(self):
        random = Random(64)
        for kinds, log in large_logs(5):
            for place, gate in enumerate(GATES):
                numbers = sorted(random.sample(range(80), 30))
                expected = reference.size(kinds, log, gate, numbers)
                self.check(shortage_size, expected, kinds, log, gate, numbers)
        for many in range(1, 81):
            self.check(shortage_size, -1 if many < 80 else 0, SHORT, tight_log(), "entries", list(range(many)))


class InterfaceTest(unittest.TestCase):
    def test_arguments_by_name(self):
        self.assertIs(is_trusts(value=([3, 8], [5]), log=EXAMPLE), True)
        self.assertEqual(lacks(trusts=([3, 8], [5]), kinds=CAR, log=EXAMPLE), (lacking(1, 1, 1), NONE))
        self.assertEqual(shortage_size(numbers=[0, 1], gate="entries", log=EXAMPLE, kinds=CAR), 1)

    def test_functions_are_defined_in_this_file(self):
        for function in (is_trusts, lacks, shortage_size):
            self.assertEqual(function.__module__, "gatepairs.shortages")


if __name__ == "__main__":
    unittest.main()
