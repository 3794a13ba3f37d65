import unittest
from itertools import product
from random import Random

from gatepairs.extensions import complete, is_extension, restriction
from gatepairs.lines import LATEST, is_log
from gatepairs.verdicts import certain_pairs, verdict
from gatepairs.worlds import find_world, is_excess, is_world
from tests import reference
from tests.case import Case
from tests.samples import CAR, GAP, GATES, LOG, busy_logs, cars, large_logs, random_line, same, small_logs

LINE = (20, "car", None)


def random_extension(random, kinds, log):
    """Some extension of the log."""
    lines, floors = [], []
    for place in (0, 1):
        floor = log[2 + place]
        more, new_floor = [], "closed"
        if floor != "closed":
            times = [floor + random.randrange(6) for _ in range(random.randrange(3))]
            more = [(time, *random_line(random, kinds, 9)[1:]) for time in times]
            new_floor = random.choice([floor, floor + random.randrange(5), "closed"])
        lines.append(log[place] + more)
        floors.append(new_floor)
    return (*lines, *floors)


class IsExtensionTest(Case):
    def test_examples(self):
        later = LOG[1] + [(13, "car", None)]
        self.check(is_extension, True, LOG, (LOG[0], later, 5, "closed"))
        self.check(is_extension, False, LOG, (LOG[0], LOG[1] + [(11, "car", None)], 5, "closed"))

    def test_log_of_itself(self):
        for kinds, log in [*small_logs(50), *large_logs(2), (CAR, LOG), (CAR, ([], [], "closed", 0))]:
            self.check(is_extension, True, log, (list(log[0]), list(log[1]), *log[2:]))

    def test_floors(self):
        floors = [0, 4, 5, 6, 10 ** 9, "closed"]
        for old, new in product(range(len(floors)), repeat=2):
            for own in (3, "closed"):
                first, second = (LOG[0], LOG[1], floors[old], own), (LOG[0], LOG[1], floors[new], own)
                self.check(is_extension, new >= old, first, second)
                first, second = (LOG[0], LOG[1], own, floors[old]), (LOG[0], LOG[1], own, floors[new])
                self.check(is_extension, new >= old, first, second)

    def test_closed_gates(self):
        for gate in (0, 1):
            def log(lines, floor):
                return (lines, LOG[1], floor, 0) if gate == 0 else (LOG[0], lines, 0, floor)
            # A closed gate gets no line and does not open again.
            self.check(is_extension, True, log([LINE], "closed"), log([LINE], "closed"))
            self.check(is_extension, False, log([LINE], "closed"), log([LINE, LINE], "closed"))
            self.check(is_extension, False, log([], "closed"), log([(10 ** 9, "car", None)], "closed"))
            self.check(is_extension, False, log([LINE], "closed"), log([LINE], 10 ** 9))
            self.check(is_extension, False, log([LINE], "closed"), log([LINE], 0))
            # A gate may get lines and be closed then.
            self.check(is_extension, True, log([LINE], 20), log([LINE, LINE], "closed"))

    def test_additional_lines_and_the_floor(self):
        for gate in (0, 1):
            def log(times, floor):
                return (cars(times), LOG[1], floor, 0) if gate == 0 else (LOG[0], cars(times), 0, floor)
            for time in (0, 18, 19, 20, 21, 10 ** 9):
                self.check(is_extension, time >= 20, log([], 20), log([time], 20))
                self.check(is_extension, time >= 20, log([5], 20), log([5, 50, time], "closed"))
                self.check(is_extension, time >= 20, log([5], 20), log([5, time, 50], "closed"))
                # The floor of the extension, and the lines of the log, make no difference.
                self.check(is_extension, time >= 20, log([5], 20), log([5, time], 60))
                self.check(is_extension, True, log([time], 20), log([time, 20], 60))

    def test_own_floor_counts(self):
        log = ([], [], 10, 30)
        self.check(is_extension, True, log, (cars([10]), [], 10, 30))
        self.check(is_extension, False, log, ([], cars([10]), 10, 30))
        self.check(is_extension, True, log, ([], cars([30]), 10, 30))
        self.check(is_extension, False, ([], [], 30, 10), (cars([10]), [], 30, 10))
        self.check(is_extension, False, log, ([], [], 9, 30))
        self.check(is_extension, False, log, ([], [], 30, 10))

    def test_lines_in_another_order(self):
        first, second, third = cars([1, 2, 3])
        for gate in (0, 1):
            def log(lines):
                return (lines, [], 0, 0) if gate == 0 else ([], lines, 0, 0)
            self.check(is_extension, True, log([first, second]), log([first, second, third]))
            wrong = [[third, first, second], [first, third, second], [second, first], [second, first, third]]
            wrong += [[first], [second], [], [third], [first, third]]
            wrong += [[first, (2, "car", "A")], [first, (2, None, None)]]
            for lines in wrong:
                self.check(is_extension, False, log([first, second]), log(lines))
            self.check(is_extension, True, log([first, first]), log([first, first, first]))
            self.check(is_extension, False, log([first, first]), log([first]))
            self.check(is_extension, True, log([]), log([third, second]))
        # Each gate has its own lines.
        self.check(is_extension, False, ([first], [second], 0, 0), ([second], [first], 0, 0))

    def test_extension_of_an_extension(self):
        random = Random(22)
        for kinds, log in [*small_logs(200), *busy_logs(100)]:
            second = random_extension(random, kinds, log)
            third = random_extension(random, kinds, second)
            self.assertTrue(is_log(kinds, third))
            for one, other in ((log, second), (second, third), (log, third)):
                self.check(is_extension, True, one, other)
                expected = same([other[0], other[1], *other[2:]], [one[0], one[1], *one[2:]])
                self.check(is_extension, expected, other, one)


class RestrictionTest(Case):
    def test_examples(self):
        self.check(restriction, [(0, 0)], LOG, [(0, 0), (1, 2)])

    def test_pairs_of_additional_lines(self):
        world = [(0, 3), (1, 0), (2, 1), (3, 2), (4, 4)]
        for entries in range(6):
            for exits in range(6):
                log = (cars(range(entries)), cars(range(exits)), 0, 0)
                expected = [(entry, leaving) for entry, leaving in world if entry < entries and leaving < exits]
                self.assertTrue(same(self.result(restriction, log, world), expected))
        self.check(restriction, [], LOG, [])

    def test_restricted_worlds_are_worlds(self):
        random = Random(23)
        count = 0
        for kinds, log in [*small_logs(1200), *busy_logs(600)]:
            other = random_extension(random, kinds, log)
            if max(map(len, other[:2])) <= 5:
                for world in reference.worlds(kinds, other)[:200]:
                    self.assertIs(is_world(kinds, log, self.result(restriction, log, world)), True)
                    count += 1
        self.assertGreater(count, 1000)


class StaysTrueTest(Case):
    """What point 17 says of a log and its extensions."""

    def cases(self, count):
        random = Random(24)
        for kinds, log in [*small_logs(count), *busy_logs(count // 3)]:
            other = random_extension(random, kinds, log)
            if max(map(len, other[:2])) <= 4:
                yield kinds, log, other

    def test_excesses_stay_excesses(self):
        count = 0
        for kinds, log, other in self.cases(500):
            for excess in reference.excesses(kinds, log):
                self.check(is_excess, True, kinds, other, excess)
            for pair in reference.all_pairs(log):
                for excess in reference.excesses(kinds, log, apart=pair):
                    self.assertTrue(reference.is_excess(kinds, other, *excess, apart=pair))
                    count += 1
                for excess in reference.excesses(kinds, log, gone=([pair[0]], [pair[1]])):
                    self.assertTrue(reference.is_excess(kinds, other, *excess, gone=([pair[0]], [pair[1]])))
        self.assertGreater(count, 100)

    def test_verdicts_stay(self):
        words = []
        for kinds, log, other in self.cases(900):
            if reference.worlds(kinds, log) and reference.worlds(kinds, other):
                for pair in reference.all_pairs(log):
                    word = verdict(kinds, log, *pair)[0]
                    if word != "undecided":
                        self.assertEqual(verdict(kinds, other, *pair)[0], word)
                        words.append(word)
        self.assertTrue(words.count("certain") > 20 and words.count("impossible") > 20)

    def test_worlds_with_and_without_a_certain_pair(self):
        count = 0
        for kinds, log, other in self.cases(900):
            if reference.worlds(kinds, log):
                for pair in certain_pairs(kinds, log):
                    less = sorted([part for part in world if part != pair] for world in reference.worlds(kinds, other))
                    self.assertEqual(less, reference.worlds(kinds, other, gone=([pair[0]], [pair[1]])))
                    count += 1
        self.assertGreater(count, 50)


class CompleteTest(Case):
    def finish(self, kinds, log, world):
        """The completed log and its world, checked by the words of the document."""
        other, other_world = self.result(complete, kinds, log, world)
        self.assertIs(is_log(kinds, other), True)
        self.assertIs(is_extension(log, other), True)
        self.assertEqual(other[2:], ("closed", "closed"))
        self.assertIs(is_world(kinds, other, other_world), True)
        self.assertTrue(same(restriction(log, other_world), world))
        for place in (0, 1):
            other_place = 1 - place
            open_lines = set(range(len(log[place]))) - {pair[place] for pair in world}
            additional = [pair for pair in other_world if pair[other_place] >= len(log[other_place])]
            self.assertEqual({pair[place] for pair in additional}, open_lines)
            self.assertEqual(len(other[other_place]), len(log[other_place]) + len(open_lines))
        return other, other_world

    def test_examples(self):
        extension, world = complete(CAR, LOG, [(0, 0)])
        self.assertEqual([is_extension(LOG, extension), len(world)], [True, 3])

    def test_small_logs(self):
        # All worlds are completed, not only those that find_world gives.
        count = 0
        for kinds, log in [*small_logs(600), *busy_logs(200)]:
            for world in reference.worlds(kinds, log):
                other, other_world = self.finish(kinds, log, world)
                count += len(other_world) > len(world)
        self.assertGreater(count, 500)

    def test_nothing_is_open(self):
        for floors in product((0, 30, "closed"), repeat=2):
            log = (cars([3, 2]), cars([8, 9]), *floors)
            for world in ([(0, 0), (1, 1)], [(0, 1), (1, 0)]):
                self.assertEqual(self.finish(CAR, log, world), ((*log[:2], "closed", "closed"), world))
            self.assertEqual(self.finish(CAR, ([], [], *floors), []), (([], [], "closed", "closed"), []))

    def test_last_possible_moment(self):
        # The only exit of the entry is at 10.
        other, world = self.finish(CAR, (cars([0]), [], 0, 10), [])
        self.assertEqual([other[1][0][0], world], [10, [(0, 0)]])
        # The only entry of the exit is at 0.
        other, world = self.finish(CAR, ([], cars([5]), 0, 0), [])
        self.assertEqual([other[0][0][0], world], [0, [(0, 0)]])
        other, world = self.finish(CAR, ([], cars([105]), 100, "closed"), [])
        self.assertEqual(other[0][0][0], 100)

    def test_close_to_the_latest_time(self):
        for before, floor in ((5, 0), (5, LATEST), (10, LATEST), (7, LATEST - 1), (5, LATEST - 4)):
            other, _ = self.finish(CAR, (cars([LATEST - before]), [], 0, floor), [])
            self.assertTrue(max(floor, LATEST - before + 5) <= other[1][0][0] <= LATEST)
        other, _ = self.finish({"car": (0, 0)}, ([], cars([LATEST]), LATEST, LATEST), [])
        self.assertEqual(other[0][0][0], LATEST)

    def test_one_kind_reaches_the_floor_and_the_other_one_the_bound(self):
        # The bike is too fast for the floor, and the van would be too late.
        for floor in (8, 12, 13, 14):
            other, _ = self.finish(GAP, ([(0, None, None)], [], 0, floor), [])
            self.assertEqual(other[1][0], (max(12, floor), "van", None))
        for before in (5, 6, 11):
            other, _ = self.finish(GAP, ([(LATEST - before, None, None)], [], 0, 0), [])
            self.assertEqual(other[1][0][1], "bike")
        other, _ = self.finish(GAP, ([(LATEST - 13, None, None)], [], 0, LATEST), [])
        self.assertEqual(other[1][0], (LATEST, "van", None))
        # The van would have entered ahead of the floor, or ahead of all times.
        for floor in (89, 94, 95):
            other, _ = self.finish(GAP, ([], [(100, None, None)], floor, 0), [])
            self.assertEqual(other[0][0][1], "bike")
        other, _ = self.finish(GAP, ([], [(7, None, None)], 0, 0), [])
        self.assertEqual(other[0][0][1], "bike")

    def test_kinds_and_plates(self):
        for kind, plate in product(("van", "bike", None), ("AB12", None)):
            log = ([(100, kind, plate)], [(50, kind, plate)], 0, 60)
            other, world = self.finish(GAP, log, [])
            self.assertEqual(world, [(0, 1), (1, 0)])
            self.assertTrue(all(is_log(GAP, ([line], [], 0, 0)) for line in other[0] + other[1]))

    def test_many_open_lines(self):
        log = (cars(range(1000, 1040)), cars(range(500, 540)), 0, 0)
        other, world = self.finish(CAR, log, [])
        self.assertEqual([len(other[0]), len(other[1]), len(world)], [80, 80, 80])
        # Of twenty pairs that fit, some are in the world.
        log = (cars(range(1000, 1040)), cars(range(1007, 1047)), 0, 0)
        for world in ([], [(number, number) for number in range(0, 40, 3)], [(39, 37), ], find_world(CAR, log)):
            self.finish(CAR, log, world)

    def test_logs_of_forty_vehicles(self):
        random = Random(25)
        for _ in range(30):
            times = [random.randrange(200) for _ in range(40)]
            names = [random.choice(["van", "bike"]) for _ in times]
            ends = [time + random.randint(*GAP[name]) for time, name in zip(times, names)]
            entries = [(time, random.choice([name, None]), None) for time, name in zip(times, names)]
            exits = [(time, None, None) for time in random.sample(ends, 40)]
            # What was logged later than at these times is taken away again.
            entry_floor, exit_floor = random.randrange(150, 250), random.randrange(100, 250)
            entries = [line for line in entries if line[0] < entry_floor]
            exits = [line for line in exits if line[0] < exit_floor]
            log = (entries, exits, entry_floor, exit_floor)
            self.finish(GAP, log, find_world(GAP, log))


class NamesTest(unittest.TestCase):
    def test_arguments_by_name(self):
        self.assertIs(is_extension(log=LOG, other=LOG), True)
        self.assertEqual(restriction(log=LOG, world=[(0, 0), (1, 2)]), [(0, 0)])
        self.assertEqual(len(complete(kinds=CAR, log=LOG, world=[(0, 0)])), 2)

    def test_functions_are_defined_in_this_file(self):
        for function in (is_extension, restriction, complete):
            self.assertEqual(function.__module__, "gatepairs.extensions")
        self.assertEqual(len(GATES), 2)


if __name__ == "__main__":
    unittest.main()
