import unittest
from itertools import product

from gatepairs.repairs import is_repair, repair
from gatepairs.worlds import find_world, is_world
from tests import reference
from tests.case import Case
from tests.samples import (
    CAR,
    GATES,
    LOG,
    ODD,
    SHORT,
    WITHOUT_WORLD,
    busy_logs,
    cars,
    large_logs,
    same,
    small_logs,
    spoilt,
    tight_log,
)

# The entries 0 and 1 fit the exit 0 only, and the exits 1, 2 and 3 fit the entry 2 only.
BOTH = (cars([0, 1, 50]), cars([6, 55, 56, 57]), "closed", "closed")


class RepairTest(Case):
    def mend(self, kinds, log):
        """A repair of the log, checked by the words of the document."""
        found = self.result(repair, kinds, log)
        self.assertTrue(reference.is_repair(kinds, log, found), found)
        self.assertIs(is_repair(kinds, log, found), True)
        return found

    def counts(self, found):
        return [len(found[0]), len(found[1])]

    def test_examples(self):
        log = (cars([0, 1]), cars([6]), 0, "closed")
        self.assertEqual(len(repair(CAR, log)[0]), 1)
        self.check(is_repair, True, CAR, log, ([1], [], [(0, 0)], [0, 1], []))

    def test_small_logs(self):
        found = []
        for kinds, log in [*small_logs(1000), *busy_logs(60)]:
            counts = self.counts(self.mend(kinds, log))
            # No fewer lines can be ignored, however they are chosen.
            self.assertEqual(sum(counts), reference.fewest_ignored(kinds, log))
            found.append(tuple(counts))
        for counts in ((0, 0), (0, 1), (1, 0), (1, 1), (2, 0), (0, 2), (2, 1), (1, 2), (2, 2)):
            self.assertGreater(found.count(counts), 3, counts)

    def test_consistent_logs(self):
        for log in (LOG, ([], [], 0, 0), ([], [], "closed", "closed"), (cars([0]), cars([5]), "closed", "closed")):
            ignored_entries, ignored_exits, world, entries_excess, exits_excess = self.mend(CAR, log)
            self.assertTrue(same((ignored_entries, ignored_exits, entries_excess, exits_excess), ([], [], [], [])))
            self.check(is_world, True, CAR, log, world)
        for kinds, log in [*small_logs(300), *busy_logs(100)]:
            if reference.worlds(kinds, log):
                self.assertEqual(self.counts(self.mend(kinds, log)), [0, 0])

    def test_contradictory_at_one_gate(self):
        log = (cars([0, 1, 50]), cars([6, 57]), 0, "closed")
        self.assertEqual(self.counts(self.mend(CAR, log)), [1, 0])
        log = (cars([0, 50]), cars([6, 7, 8, 57]), "closed", 0)
        self.assertEqual(self.counts(self.mend(CAR, log)), [0, 2])

    def test_contradictory_at_both_gates(self):
        found = self.mend(CAR, BOTH)
        self.assertEqual(self.counts(found), [1, 2])
        self.assertEqual(found[3:], ([0, 1], [1, 2, 3]))
        self.assertEqual(len(found[2]), 2)

    def test_ignored_exits_leave_the_entries_alone(self):
        # The exit 0 has to be paired, and fits the entry 0 only, which then gives the exit 1 away. That may be open.
        log = (cars([10]), cars([15, 16]), 11, "closed")
        self.assertEqual(self.mend(CAR, log), ([], [], [(0, 0)], [], []))
        log = (cars([10]), cars([16, 15]), 11, "closed")
        self.assertEqual(self.mend(CAR, log), ([], [], [(0, 1)], [], []))
        # An entry that fits only exits that others need stays ignored when the exits get their entries.
        log = (cars([0, 0, 0]), cars([5, 6, 50]), 0, "closed")
        self.assertEqual(self.counts(self.mend(CAR, log)), [1, 0])
        log = (cars([0, 0, 0]), cars([5, 6, 50]), "closed", "closed")
        self.assertEqual(self.counts(self.mend(CAR, log)), [1, 1])

    def test_lines_that_fit_nothing(self):
        log = (cars([0, 1, 2]), cars([500, 600]), "closed", "closed")
        self.assertEqual(self.mend(CAR, log), ([0, 1, 2], [0, 1], [], [0, 1, 2], [0, 1]))
        log = (cars([0, 1, 2]), [], 0, "closed")
        self.assertEqual(self.mend(CAR, log), ([0, 1, 2], [], [], [0, 1, 2], []))
        log = ([], cars([0, 1, 2]), "closed", 0)
        self.assertEqual(self.mend(CAR, log), ([], [0, 1, 2], [], [], [0, 1, 2]))
        log = (cars([0], "A"), cars([5], "B"), "closed", "closed")
        self.assertEqual(self.mend(CAR, log), ([0], [0], [], [0], [0]))

    def test_several_places_at_once(self):
        # At each of the times 0, 100 and so on there is one entry too many, and the excess names them all.
        times = [100 * number for number in range(10)]
        log = (cars(times + times), cars([time + 7 for time in times]), 0, "closed")
        found = repair(CAR, log)
        self.assertIs(is_repair(CAR, log, found), True)
        self.assertEqual([self.counts(found), found[3:]], [[10, 0], (list(range(20)), [])])

    def test_many_equal_lines(self):
        for entries, exits in product((0, 1, 79, 80), repeat=2):
            log = (cars([0] * entries), cars([7] * exits), "closed", "closed")
            found = self.result(repair, CAR, log)
            self.assertIs(is_repair(CAR, log, found), True)
            self.assertEqual(self.counts(found), [max(0, entries - exits), max(0, exits - entries)])
            self.assertEqual(len(found[2]), min(entries, exits))

    def test_one_world_of_many_lines(self):
        entries, exits, *floors = tight_log()
        for log, counts in (
            ((entries, exits, *floors), [0, 0]),
            ((entries, exits[1:], *floors), [1, 0]),
            ((entries[:-1], exits, *floors), [0, 1]),
            ((entries[:-1], exits[1:], *floors), [0, 0]),
            ((entries[1:], exits[:-1], *floors), [1, 1]),
        ):
            found = self.result(repair, SHORT, log)
            self.assertIs(is_repair(SHORT, log, found), True)
            self.assertEqual(self.counts(found), counts)

    def test_large_logs(self):
        ignored = []
        for kinds, log in large_logs(60):
            entries, exits, *floors = log
            for lines in ((entries, exits), (entries[::2], exits), (entries, exits[10:]), (entries[9:], exits[::3])):
                changed = (*lines, *floors)
                found = self.result(repair, kinds, changed)
                self.assertIs(is_repair(kinds, changed, found), True)
                ignored.append(sum(self.counts(found)))
                if ignored[-1]:
                    self.check_contradiction(find_world, kinds, changed)
                else:
                    self.check(is_world, True, kinds, changed, find_world(kinds, changed))
        self.assertGreater(ignored.count(0), 20)
        self.assertGreater(len(set(ignored)), 20)


class JudgeTest(Case):
    def test_all_values_for_small_logs(self):
        logs = [log for log in small_logs(1000) if {len(log[1][0]), len(log[1][1])} <= {1, 2}]
        right = wrong = 0
        for kinds, log in logs[:: len(logs) // 60]:
            lists = [reference.subsets(range(len(lines))) for lines in log[:2]]
            pairs = reference.subsets(reference.all_pairs(log))
            for value in product(*lists, pairs, *lists):
                expected = reference.is_repair(kinds, log, value)
                self.assertIs(is_repair(kinds, log, value), expected)
                right += expected
                wrong += not expected
        self.assertTrue(right > 50 and wrong > 1000)

    def test_other_excesses_that_are_as_good(self):
        # The entry 2 and the exit 1 are far from the other lines. They may be in the lists or not.
        log = (cars([0, 1, 50]), cars([6, 57]), 0, "closed")
        for ignored, world in (([0], [(1, 0), (2, 1)]), ([1], [(0, 0), (2, 1)])):
            for excess in ([0, 1], [0, 1, 2]):
                self.check(is_repair, True, CAR, log, (ignored, [], world, excess, []))
            for excess in ([], [0], [1], [2], [0, 2], [1, 2]):
                self.check(is_repair, False, CAR, log, (ignored, [], world, excess, []))
        # If nothing is ignored, any list will do of which the lines are just as many as those that fit them.
        log = (cars([0, 1]), cars([6, 7]), "closed", "closed")
        for chosen in product(([], [0, 1]), repeat=2):
            self.check(is_repair, True, CAR, log, ([], [], [(0, 0), (1, 1)], *chosen))
            self.check(is_repair, True, CAR, log, ([], [], [(0, 1), (1, 0)], *chosen))
        self.check(is_repair, False, CAR, log, ([], [], [(0, 0), (1, 1)], [0], []))

    def test_size_of_the_excess_is_the_number_of_ignored_lines(self):
        log = (cars([0, 1, 2]), cars([7]), 0, "closed")
        self.check(is_repair, True, CAR, log, ([0, 1], [], [(2, 0)], [0, 1, 2], []))
        wrong = [([0, 1], [], [(2, 0)], [0, 1], []), ([0], [], [(2, 0)], [0, 1, 2], [])]
        wrong += [([0], [], [(2, 0)], [0, 1], []), ([0, 1, 2], [], [], [0, 1, 2], [])]
        wrong += [([0, 1], [], [], [0, 1, 2], []), ([], [], [(2, 0)], [], [])]
        wrong += [([0, 1], [0], [], [0, 1, 2], []), ([0, 1, 2], [0], [], [0, 1, 2], [])]
        self.check_values(is_repair, False, wrong, CAR, log)

    def test_excesses_hold_must_lines(self):
        # The entry 1 may be open. With it there would be two entries for one exit.
        log = (cars([0, 5]), cars([10]), 0, 12)
        self.check(is_repair, True, CAR, log, ([], [], [(0, 0)], [], []))
        self.check(is_repair, True, CAR, log, ([], [], [(0, 0)], [0], []))
        self.check(is_repair, False, CAR, log, ([1], [], [(0, 0)], [0, 1], []))
        self.check(is_repair, False, CAR, log, ([1], [], [(0, 0)], [], []))
        self.check(is_repair, False, CAR, log, ([0], [], [(1, 0)], [0], []))

    def test_ignored_lines_count_as_lines_that_fit(self):
        # Nobody may ignore an exit in order to make the entries lack it.
        log = (cars([0, 1]), cars([6, 7]), "closed", "closed")
        self.check(is_repair, False, CAR, log, ([1], [1], [(0, 0)], [0, 1], [0, 1]))
        self.check(is_repair, False, CAR, log, ([1], [1], [(0, 0)], [], []))

    def test_ignored_lines_are_in_no_tuple(self):
        log = (cars([0, 1]), cars([6]), 0, "closed")
        self.check(is_repair, False, CAR, log, ([0], [], [(0, 0)], [0, 1], []))
        self.check(is_repair, False, CAR, log, ([1], [], [(1, 0)], [0, 1], []))
        self.check(is_repair, True, CAR, log, ([0], [], [(1, 0)], [0, 1], []))

    def test_one_thing_changed(self):
        right = ([0], [1, 2], [(1, 0), (2, 3)], [0, 1], [1, 2, 3])
        self.check(is_repair, True, CAR, BOTH, right)
        other = ([1], [2, 3], [(0, 0), (2, 1)], [0, 1], [1, 2, 3])
        self.check(is_repair, True, CAR, BOTH, other)
        lists = [[0, 0], [1], [2], [3], [-1], [False], [0, 1], [0, 2], (0,), [], None, 0, {0: 0}, ["0"], [(0,)], [[0]]]
        wrong = [(value, *right[1:]) for value in lists]
        lists = [[2, 1], [1, 1, 2], [1], [2], [1, 3], [1, 2, 3], [True, 2], [1, 4], [-1, 2], (1, 2), [], None, 1]
        wrong += [(right[0], value, *right[2:]) for value in lists]
        worlds = [[(2, 3), (1, 0)], [(1, 0)], [(2, 3)], [(0, 0), (2, 3)], [(1, 0), (2, 1)], [[1, 0], [2, 3]]]
        worlds += [[(True, 0), (2, 3)], ((1, 0), (2, 3)), [], None, [(1, 0), (2, 3), (2, 3)], [(1, 1), (2, 3)]]
        worlds += [[(1, False), (2, 3)]]
        wrong += [(*right[:2], value, *right[3:]) for value in worlds]
        lists = [[1, 0], [0, 0, 1], [0], [1], [], [0, 2], [0, 1, 3], [-1, 0, 1], [False, 1], [0, True], (0, 1), None]
        wrong += [(*right[:3], value, right[4]) for value in lists]
        lists = [[3, 2, 1], [1, 2], [1, 1, 2, 3], [True, 2, 3], [1, 2, 4], [-1, 1, 2, 3], (1, 2, 3), [], None, [2, 3]]
        wrong += [(*right[:4], value) for value in lists]
        self.check_values(is_repair, False, wrong, CAR, BOTH)
        # The entry 2 fits the exits 1 to 3, which are more than one, so it makes the list worse. The exit 0 does not.
        self.check(is_repair, False, CAR, BOTH, (*right[:3], [0, 1, 2], right[4]))
        self.check(is_repair, False, CAR, BOTH, (*right[:4], [0, 1, 2, 3]))

    def test_forms(self):
        right = ([0], [1, 2], [(1, 0), (2, 3)], [0, 1], [1, 2, 3])
        wrong = [right[:4], right[1:], (*right, []), (*right, None), list(right), (right,), [right], (), [], right[:3]]
        wrong += [(right[1], right[0], *right[2:]), (*right[:3], right[4], right[3])]
        self.check_values(is_repair, False, wrong, CAR, BOTH)

    def test_other_values(self):
        for log in (LOG, BOTH, ([], [], 0, 0), *WITHOUT_WORLD):
            self.check_values(is_repair, False, ODD, CAR, log)

    def test_values_that_are_wrong_in_one_part(self):
        for log in (LOG, BOTH, ([], [], 0, 0), WITHOUT_WORLD[2], WITHOUT_WORLD[3]):
            for value in spoilt(repair(CAR, log)):
                self.check(is_repair, reference.is_repair(CAR, log, value), CAR, log, value)


class NamesTest(unittest.TestCase):
    def test_arguments_by_name(self):
        self.assertIs(is_repair(kinds=CAR, log=BOTH, value=repair(kinds=CAR, log=BOTH)), True)

    def test_functions_are_defined_in_this_file(self):
        for function in (repair, is_repair):
            self.assertEqual(function.__module__, "gatepairs.repairs")

    def test_gates_are_in_their_order(self):
        self.assertEqual(GATES, ("entries", "exits"))
        self.assertEqual(repair(CAR, (cars([0]), [], 0, "closed")), ([0], [], [], [0], []))


if __name__ == "__main__":
    unittest.main()
