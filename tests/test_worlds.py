import unittest
from copy import deepcopy

from gatepairs.errors import Contradiction, GateError
from gatepairs.worlds import find_world, is_excess, is_world
from tests import reference
from tests.case import Case
from tests.samples import CAR, GAP, GATES, LOG, ODD, cars, large_logs, same, small_logs, spoilt


class WorldTest(Case):
    def check_worlds(self, expected, kinds, log, values):
        self.check_values(is_world, expected, values, kinds, log)

    def test_examples(self):
        self.check(is_world, True, CAR, LOG, [(0, 0)])
        self.check(is_world, False, CAR, LOG, [(1, 0)])

    def test_all_lists_of_pairs_of_small_logs(self):
        for kinds, log in small_logs(150):
            worlds = reference.worlds(kinds, log)
            pairs = [(entry, leaving) for entry in range(len(log[0])) for leaving in range(len(log[1]))]
            for value in reference.subsets(pairs):
                self.assertIs(is_world(kinds, log, value), value in worlds)

    def test_must_lines_occur(self):
        self.check_worlds(False, CAR, LOG, [[], [(1, 1)]])
        self.check_worlds(True, CAR, LOG, [[(0, 0), (1, 1)]])
        entries, exits = cars([0, 1, 2]), cars([6, 7, 8])
        two, three = [(0, 0), (1, 1)], [(0, 0), (1, 1), (2, 2)]
        for floors in ((0, 0), (0, "closed"), ("closed", 0), ("closed", "closed")):
            log = (entries, exits, *floors)
            self.check(is_world, "closed" not in floors, CAR, log, two)
            self.check(is_world, "closed" not in floors, CAR, log, [])
            self.check(is_world, True, CAR, log, three)
        # Here the third line of one gate has to be paired, and that of the other gate need not be.
        self.check(is_world, True, CAR, (entries, exits[:2], 0, 12), two)
        self.check(is_world, False, CAR, (entries, exits[:2], 0, 13), two)
        self.check(is_world, True, CAR, (entries[:2], exits, 3, 0), two)
        self.check(is_world, False, CAR, (entries[:2], exits, 4, 0), two)

    def test_pairs_fit(self):
        log = ([(0, "bike", "A"), (0, None, None)], [(6, "bike", "B"), (12, None, None), (9, None, None)], 0, 0)
        fitting = [(0, 0), (0, 1), (0, 2), (1, 0), (1, 1), (1, 2)]
        for pair in fitting:
            self.check(is_world, pair in [(1, 0), (1, 1)], GAP, log, [pair])

    def test_order(self):
        log = (cars([0, 0, 0]), cars([5, 5, 5]), 0, 0)
        self.check_worlds(True, CAR, log, [[(0, 1), (1, 0)], [(0, 2), (1, 1), (2, 0)], [(0, 0), (2, 1)], [(2, 2)], []])
        self.check_worlds(False, CAR, log, [[(1, 0), (0, 1)], [(2, 0), (1, 1), (0, 2)], [(0, 0), (2, 1), (1, 2)]])

    def test_numbers_twice(self):
        log = (cars([0, 0, 0]), cars([5, 5, 5]), 0, 0)
        wrong = [[(0, 0), (0, 0)], [(0, 0), (0, 1)], [(0, 0), (1, 0)]]
        wrong += [[(0, 0), (1, 1), (2, 0)], [(0, 0), (1, 1), (1, 2)]]
        self.check_worlds(False, CAR, log, wrong)

    def test_numbers_out_of_range(self):
        log = (cars([0, 0]), cars([5, 5, 5]), 0, 0)
        wrong = [(2, 0), (0, 3), (-1, 0), (0, -1), (-2, -3), (10 ** 9, 0), (0, 10 ** 5000), (-(10 ** 5000), 0)]
        self.check_worlds(False, CAR, log, [[pair] for pair in wrong])
        self.check_worlds(False, CAR, log, [[(-1, 0), (0, 1)], [(0, 0), (1, 3)], [(0, 0), (2, 2)]])
        self.check_worlds(True, CAR, log, [[(0, 0), (1, 2)]])
        self.check_worlds(False, CAR, ([], [], 0, 0), [[(0, 0)], [(-1, -1)]])

    def test_forms(self):
        log = (cars([0, 0]), cars([5, 5]), 0, 0)
        wrong = [((0, 0), (1, 1)), ((0, 0),), (0, 0), [[0, 0]], [(0, 0), [1, 1]], [(0,)], [(0, 0, 0)], [()], [0, 0]]
        wrong += [[(True, 0)], [(0, False)], [(False, False), (True, True)], [(0, 0), (1, True)], [(0, None)]]
        wrong += [[(None, 0)], [("0", "0")], [((0,), 0)], [([0], [0])], [None], {(0, 0): True}]
        wrong += [{0: 0}, {}, (), None, "", True, [[]]]
        self.check_worlds(False, CAR, log, wrong)

    def test_other_values(self):
        for log in (LOG, ([], [], 0, 0), (cars([0]), cars([5]), 0, 0)):
            self.check_values(is_world, False, ODD, CAR, log)

    def test_values_that_are_wrong_in_one_part(self):
        log = (cars([0, 0]), cars([5, 5]), "closed", "closed")
        # The odd values 0 and 1 stand for the numbers of a right world once each.
        right = [value for value in spoilt([(0, 1), (1, 0)]) if is_world(CAR, log, value)]
        self.assertTrue(same(right, [[(0, 1), (1, 0)]] * 4))

    def test_empty_world(self):
        self.check(is_world, True, CAR, ([], [], 0, 0), [])
        self.check(is_world, True, CAR, ([], [], "closed", "closed"), [])
        self.check(is_world, True, CAR, (cars([0]), cars([5]), 0, 0), [])
        self.check(is_world, False, CAR, (cars([0]), [], 0, 11), [])
        self.check(is_world, True, CAR, (cars([0]), [], 0, 10), [])
        self.check(is_world, False, CAR, ([], cars([4]), 0, 0), [])


class ExcessTest(Case):
    def check_excesses(self, expected, kinds, log, values):
        self.check_values(is_excess, expected, values, kinds, log)

    def test_example(self):
        self.check(is_excess, True, CAR, (cars([0]), [], 0, "closed"), ("entries", [0]))

    def test_all_lists_of_numbers_of_small_logs(self):
        for kinds, log in small_logs(300):
            for gate, lines in zip(GATES, log):
                for numbers in reference.subsets(range(len(lines))):
                    expected = reference.is_excess(kinds, log, gate, numbers)
                    self.check(is_excess, expected, kinds, log, (gate, numbers))

    def test_fewer_lines_that_fit(self):
        entries = cars([0, 1, 2, 50])
        log = (entries, cars([6, 7, 60]), 0, "closed")
        self.check_excesses(True, CAR, log, [("entries", [0, 1, 2]), ("entries", [0, 1, 2, 3])])
        self.check_excesses(False, CAR, log, [("entries", [0, 1]), ("entries", [3]), ("entries", [0, 1, 3])])
        self.check_excesses(False, CAR, log, [("exits", [0]), ("exits", [2]), ("exits", [0, 1, 2])])
        mirrored = (cars([0, 1, 50]), cars([7, 8, 9, 60]), "closed", 0)
        self.check_excesses(True, CAR, mirrored, [("exits", [0, 1, 2]), ("exits", [0, 1, 2, 3])])
        self.check_excesses(False, CAR, mirrored, [("exits", [0, 1]), ("exits", [3]), ("exits", [1, 2, 3])])
        self.check_excesses(False, CAR, mirrored, [("entries", [0]), ("entries", [2]), ("entries", [0, 1, 2])])

    def test_lines_that_may_be_open_do_not_count(self):
        entries = cars([0, 1, 2])
        self.check(is_excess, True, CAR, (entries, [], 0, 13), ("entries", [0, 1, 2]))
        self.check(is_excess, False, CAR, (entries, [], 0, 12), ("entries", [0, 1, 2]))
        self.check(is_excess, True, CAR, (entries, [], 0, 12), ("entries", [0, 1]))
        exits = cars([4, 5, 6])
        self.check(is_excess, True, CAR, ([], exits, 2, 0), ("exits", [0, 1, 2]))
        self.check(is_excess, False, CAR, ([], exits, 1, 0), ("exits", [0, 1, 2]))
        self.check(is_excess, True, CAR, ([], exits, 1, 0), ("exits", [0, 1]))

    def test_numbers(self):
        for gate in GATES:
            log = (cars([0, 1, 2]), [], 0, "closed") if gate == "entries" else ([], cars([0, 1, 2]), "closed", 0)
            right = [[0], [2], [0, 2], [1, 2], [0, 1, 2]]
            self.check_excesses(True, CAR, log, [(gate, numbers) for numbers in right])
            wrong = [[], [0, 0], [1, 0], [0, 2, 1], [0, 1, 1], [3], [0, 3], [-1], [-1, 0], [-3, -2, -1], [10 ** 5000]]
            wrong += [[False], [True], [0, True], [False, True], [None], ["0"], [(0,)], [[0]], ["entries"], (0,), ()]
            wrong += [{0: 0}, {}, None, 0, True, "0", "", "entries", ([0],)]
            self.check_excesses(False, CAR, log, [(gate, numbers) for numbers in wrong])

    def test_forms(self):
        log = (cars([0]), [], 0, "closed")
        wrong = [["entries", [0]], ("entries",), ("entries", [0], None), ("entries", 0), ("exits", [0]), ("exits", [])]
        wrong += [("Entries", [0]), ("entry", [0]), ("", [0]), (None, [0]), (0, [0]), (True, [0]), (["entries"], [0])]
        wrong += [([0], "entries"), ([0],), [0], {"entries": [0]}, (("entries", [0]),), ("entries", "exits"), "entries"]
        wrong += [(("entries",), [0]), ({}, [0]), ("e", "entries"), ("entries", ("entries", [0]))]
        self.check_excesses(False, CAR, log, wrong)

    def test_other_values(self):
        for log in (LOG, ([], [], 0, 0), (cars([0, 1]), cars([50, 51]), "closed", "closed")):
            self.check_values(is_excess, False, ODD, CAR, log)

    def test_values_that_are_wrong_in_one_part(self):
        log = (cars([0, 1]), cars([50, 51]), "closed", "closed")
        # The odd values "entries" and "exits" may stand for the gate, [0] for the numbers, and 0 and 1 for themselves.
        right = [value for value in spoilt(("entries", [0, 1])) if is_excess(CAR, log, value)]
        same_numbers = [("entries", [0, 1])] * 2
        self.assertEqual(right, [("entries", [0, 1]), ("exits", [0, 1]), ("entries", [0]), *same_numbers])
        self.assertTrue(all(type(number) is int for value in right for number in value[1]))


class FindTest(Case):
    def find(self, kinds, log):
        """What find_world returns or raises, as a tuple of a word and it, checked by the words of the document."""
        before = deepcopy((kinds, log))
        try:
            found = ("world", find_world(kinds, log))
        except Contradiction as error:
            found = ("excess", error.excess)
        self.assertTrue(same((kinds, log), before))
        self.check(is_world, found[0] == "world", kinds, log, found[1])
        self.check(is_excess, found[0] == "excess", kinds, log, found[1])
        if found[0] == "world":
            self.check_world_by_the_words(kinds, log, found[1])
        else:
            self.assertTrue(reference.is_excess(kinds, log, *found[1]))
        return found

    def check_world_by_the_words(self, kinds, log, world):
        self.assertTrue(same(world, [(int(entry), int(leaving)) for entry, leaving in sorted(set(world))]))
        for place, gate in enumerate(GATES):
            numbers = [pair[place] for pair in world]
            self.assertEqual(len(set(numbers)), len(world))
            self.assertLessEqual(set(reference.musts(kinds, log, gate)), set(numbers))
        for entry, leaving in world:
            self.assertTrue(reference.lines_fit(kinds, log[0][entry], log[1][leaving]))

    def test_examples(self):
        self.assertEqual(self.find(CAR, LOG)[0], "world")
        self.assertTrue(same(self.find(CAR, (cars([0]), [], 0, "closed")), ("excess", ("entries", [0]))))

    def test_contradiction(self):
        for base in (Contradiction, GateError, ValueError):
            with self.assertRaises(base) as caught:
                find_world(CAR, ([], cars([3]), 0, 0))
            self.assertTrue(same(caught.exception.excess, ("exits", [0])))

    def test_small_logs(self):
        words = []
        for kinds, log in small_logs(1500):
            found = self.find(kinds, log)
            worlds = reference.worlds(kinds, log)
            # Point 9: a log has a world or an excess, never both.
            self.assertEqual(len(worlds) > 0, len(reference.excesses(kinds, log)) == 0)
            self.assertEqual(found[0] == "world", len(worlds) > 0)
            words.append(found[0])
        self.assertGreater(words.count("world"), 300)
        self.assertGreater(words.count("excess"), 300)

    def test_large_logs(self):
        words = [self.find(kinds, log)[0] for kinds, log in large_logs(60)]
        self.assertGreater(words.count("world"), 10)
        self.assertGreater(words.count("excess"), 10)

    def test_no_lines(self):
        for entry_floor in (0, 10 ** 9, "closed"):
            for exit_floor in (0, 10 ** 9, "closed"):
                self.assertEqual(self.find(CAR, ([], [], entry_floor, exit_floor)), ("world", []))

    def test_only_world_of_a_large_log(self):
        # Entry i fits the exits at i and i + 1 only, so that each entry leaves the next one just one exit.
        kinds, times = {"car": (0, 1)}, list(range(80))
        for entry_times in (times, times[::-1], times[1::2] + times[::2]):
            for exit_times in (times, times[::-1], times[40:] + times[:40]):
                log = (cars(entry_times), cars(exit_times), "closed", "closed")
                world = [(number, exit_times.index(time)) for number, time in enumerate(entry_times)]
                self.assertEqual(self.find(kinds, log), ("world", world))
                # Without the exit at 0 there are 79 exits for 80 entries.
                less = cars(time for time in exit_times if time > 0)
                self.assertEqual(self.find(kinds, (log[0], less, 0, "closed"))[0], "excess")
                # Without the entry at 79 there are 79 entries for 80 exits.
                less = cars(time for time in entry_times if time < 79)
                self.assertEqual(self.find(kinds, (less, log[1], "closed", 0))[0], "excess")

    def test_only_excess_of_a_large_log(self):
        # Only all 80 lines of the one gate together are too many for the 79 lines of the other gate.
        kinds, times = {"car": (0, 1)}, list(range(80))
        log = (cars(times[:-1]), cars(times), "closed", 10 ** 9)
        self.assertEqual(self.find(kinds, log), ("excess", ("exits", times)))
        log = (cars(times), cars(times[1:]), 0, "closed")
        self.assertEqual(self.find(kinds, log), ("excess", ("entries", times)))

    def test_must_exit_takes_the_entry_of_another_exit(self):
        # The entry has to be paired and fits both exits. The exit 1 need not be paired, the exit 0 must be.
        kinds = {"car": (0, 10)}
        for exits, world in (([8, 9], [(0, 0)]), ([9, 8], [(0, 1)])):
            log = (cars([5]), [(time, "car", None) for time in exits], 9, "closed")
            self.assertEqual(self.find(kinds, log), ("world", world))

    def test_must_exits_take_entries_that_may_be_open(self):
        log = (cars(range(80)), cars(range(84, 4, -1)), "closed", 0)
        self.assertEqual(self.find(CAR, log), ("world", [(number, 79 - number) for number in range(80)]))

    def test_all_lines_alike(self):
        for many in (79, 80):
            log = (cars([0] * 80), cars([5] * many), "closed", "closed")
            self.assertEqual(self.find(CAR, log)[0], "world" if many == 80 else "excess")

    def test_result_is_new(self):
        first = find_world(CAR, (cars([0, 1]), cars([5, 6]), "closed", "closed"))
        again = deepcopy(first)
        first.append((7, 7))
        first[0] = None
        self.assertEqual(find_world(CAR, (cars([0, 1]), cars([5, 6]), "closed", "closed")), again)

    def test_excess_is_new(self):
        log = (cars([0]), [], 0, "closed")
        for _ in range(2):
            with self.assertRaises(Contradiction) as caught:
                find_world(CAR, log)
            self.assertEqual(caught.exception.excess, ("entries", [0]))
            caught.exception.excess[1].append(5)


class NamesTest(unittest.TestCase):
    def test_arguments_by_name(self):
        self.assertIs(is_world(kinds=CAR, log=LOG, value=[(0, 0)]), True)
        self.assertIs(is_excess(kinds=CAR, log=LOG, value=("entries", [0])), False)
        self.assertEqual(find_world(kinds=CAR, log=([], [], 0, 0)), [])

    def test_functions_are_defined_in_this_file(self):
        for function in (is_world, is_excess, find_world):
            self.assertEqual(function.__module__, "gatepairs.worlds")


if __name__ == "__main__":
    unittest.main()
