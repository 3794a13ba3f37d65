import unittest
from itertools import permutations
from random import Random

from gatepairs.errors import Contradiction, GateError, TooMany
from gatepairs.listing import all_worlds, is_ordered, ordered_world
from gatepairs.worlds import find_world, is_world
from tests import reference
from tests.case import Case
from tests.samples import (
    CAR,
    LOG,
    SHORT,
    WITHOUT_WORLD,
    busy_logs,
    cars,
    large_logs,
    later,
    same,
    shuffled,
    small_logs,
    tight_log,
)


def twins(many):
    """A log with two worlds for each of this many pairs of cars that are far from each other. The gates are closed."""
    times = [100 * (number // 2) for number in range(2 * many)]
    return cars(times), cars([time + 7 for time in times]), "closed", "closed"


class AllWorldsTest(Case):
    def check_too_many(self, kinds, log, limit):
        with self.assertRaises(TooMany) as caught:
            all_worlds(kinds, log, limit=limit)
        self.assertTrue(same(vars(caught.exception), {"limit": limit}))

    def check_limits(self, kinds, log, many):
        """There are this many worlds, as all limits tell."""
        found = self.result(all_worlds, kinds, log, limit=many)
        self.assertEqual(len(found), many)
        self.assertTrue(same(all_worlds(kinds, log, limit=many + 1), found))
        self.check_too_many(kinds, log, many - 1)
        self.check_too_many(kinds, log, 0)
        return found

    def test_examples(self):
        self.check(all_worlds, [[(0, 0)], [(0, 0), (1, 1)]], CAR, LOG)
        self.check_too_many(CAR, LOG, 1)

    def test_small_logs(self):
        counts = []
        for kinds, log in [*small_logs(1000), *busy_logs(250)]:
            worlds = reference.worlds(kinds, log)
            counts.append(len(worlds))
            if not worlds:
                self.check_contradiction(all_worlds, kinds, log)
                self.check_contradiction(all_worlds, kinds, log, limit=0)
                continue
            self.assertTrue(same(self.check_limits(kinds, log, len(worlds)), worlds))
            self.assertTrue(same(self.result(all_worlds, kinds, log), worlds))
        self.assertGreater(len([many for many in counts if many > 5]), 30)

    def test_contradiction_comes_ahead_of_the_limit(self):
        for log in WITHOUT_WORLD:
            for limit in (0, 1, 5000):
                self.check_contradiction(all_worlds, CAR, log, limit=limit)

    def test_limit_if_none_is_passed(self):
        # The four cars make 24 worlds and the twins 2 each: 768 and 1536.
        for many, expected in ((5, 768), (6, 1536)):
            entries, exits, *floors = twins(many)
            log = (entries + cars([5000] * 4), exits + cars([5007] * 4), *floors)
            if expected <= 1000:
                self.assertEqual(len(all_worlds(CAR, log)), expected)
            else:
                with self.assertRaises(TooMany) as caught:
                    all_worlds(CAR, log)
                self.assertTrue(same(caught.exception.limit, 1000))
                self.assertEqual(len(all_worlds(CAR, log, limit=5000)), expected)
        # An entry has 999 or 1000 exits, or none.
        for many in (998, 999, 1000):
            log = (cars([0]), cars([5] * many), 0, 0)
            if many < 1000:
                self.assertEqual(all_worlds(CAR, log), [[], *([(0, leaving)] for leaving in range(many))])
            else:
                with self.assertRaises(TooMany):
                    all_worlds(CAR, log)

    def test_limit_by_name_only(self):
        with self.assertRaises(TypeError):
            all_worlds(CAR, LOG, 5)

    def test_some_thousand_worlds(self):
        found = self.check_limits(CAR, twins(12), 4096)
        self.assertEqual(found, sorted(found))
        self.assertEqual(len({tuple(world) for world in found}), 4096)
        self.assertTrue(all(is_world(CAR, twins(12), world) for world in found[::50]))

    def test_some_thousand_worlds_of_a_large_log(self):
        # Behind the twins come 60 vehicles with one world only, so that each entry has to be looked at.
        entries, exits, *floors = twins(10)
        first, second, *_ = tight_log(10000)
        times = [line[0] for line in exits]
        log = (entries + first[:60], cars([time - 6 for time in times]) + second[:60], *floors)
        found = self.check_limits(SHORT, log, 1024)
        self.assertTrue(all(world[20:] == [(number, number) for number in range(20, 80)] for world in found))

    def test_all_orders_of_equal_lines(self):
        for floors in (("closed", "closed"), ("closed", 0), (0, "closed")):
            log = (cars([0] * 6), cars([7] * 6), *floors)
            found = self.check_limits(CAR, log, 720)
            self.assertTrue(same(found, [list(enumerate(order)) for order in permutations(range(6))]))

    def test_open_lines(self):
        log = (cars([0, 0]), cars([7, 7]), 0, 0)
        worlds = [[], [(0, 0)], [(0, 0), (1, 1)], [(0, 1)], [(0, 1), (1, 0)], [(1, 0)], [(1, 1)]]
        self.check(all_worlds, worlds, CAR, log)
        self.check(all_worlds, [worlds[2], worlds[4]], CAR, (*log[:2], "closed", 0))
        self.check(all_worlds, [[(0, 0)], [(0, 1)]], CAR, (cars([0]), cars([7, 7]), 0, "closed"))

    def test_too_many_worlds_of_large_logs(self):
        for floors in ((0, 0), ("closed", "closed"), (0, "closed")):
            for limit in (0, 1, 1000, 5000):
                self.check_too_many(CAR, (cars([0] * 80), cars([7] * 80), *floors), limit)
        self.check_too_many(CAR, twins(40), 5000)

    def test_no_lines(self):
        for floors in ((0, 0), ("closed", "closed"), (0, "closed"), (10 ** 9, 10 ** 9)):
            self.check(all_worlds, [[]], CAR, ([], [], *floors))
            self.check_limits(CAR, ([], [], *floors), 1)

    def test_many_lines_in_one_world(self):
        diagonal = [(number, number) for number in range(80)]
        self.assertTrue(same(self.check_limits(SHORT, tight_log(), 1), [diagonal]))
        # Here all lines are open in the only world.
        log = (cars(range(1000, 1080)), cars(range(80, 160)), 0, 0)
        self.assertTrue(same(self.check_limits(CAR, log, 1), [[]]))

    def test_large_logs(self):
        counts = []
        for kinds, log in large_logs(40):
            try:
                world = find_world(kinds, log)
            except Contradiction:
                self.check_contradiction(all_worlds, kinds, log, limit=0)
                continue
            try:
                found = all_worlds(kinds, log, limit=200)
            except TooMany:
                counts.append(200)
                continue
            counts.append(len(found))
            self.assertIn(world, found)
            self.assertTrue(all(is_world(kinds, log, world) for world in found))
        self.assertGreater(len(counts), 5)

    def test_another_order_and_later_times(self):
        random = Random(19)
        for kinds, log in busy_logs(100):
            if reference.worlds(kinds, log):
                worlds = all_worlds(kinds, log)
                self.assertEqual(all_worlds(kinds, later(log, 700)), worlds)
                other, (entries, exits) = shuffled(random, log)
                moved = [[(entries.index(entry), exits.index(leaving)) for entry, leaving in world] for world in worlds]
                self.assertEqual(all_worlds(kinds, other), sorted(sorted(world) for world in moved))


class OrderTest(Case):
    def is_ordered_by_the_words(self, log, world):
        for first in world:
            for second in world:
                if log[0][first[0]][0] < log[0][second[0]][0] and not log[1][first[1]][0] <= log[1][second[1]][0]:
                    return False
        return True

    def order(self, kinds, log, world):
        """The ordered world, checked by the words of the document."""
        found = self.result(ordered_world, log, world)
        self.assertIs(is_world(kinds, log, found), True)
        self.assertTrue(self.is_ordered_by_the_words(log, found))
        self.check(is_ordered, True, log, found)
        for place in (0, 1):
            self.assertEqual(sorted(pair[place] for pair in found), sorted(pair[place] for pair in world))
        return found

    def test_examples(self):
        log = (cars([0, 1]), cars([8, 9]), 0, 0)
        self.check(is_ordered, False, log, [(0, 1), (1, 0)])
        self.check(is_ordered, True, log, [(0, 0), (1, 1)])
        self.check(ordered_world, [(0, 0), (1, 1)], log, [(0, 1), (1, 0)])

    def test_small_logs(self):
        random = Random(20)
        words = []
        for number in range(400):
            kinds = {"car": random.choice([(0, 3), (1, 4), (2, 2), (0, 6)])}
            if number % 3 == 0:
                kinds["van"] = (50, 60)
            names = ["car"] if "van" in kinds else ["car", None]
            entries = [(random.randrange(5), random.choice(names), None) for _ in range(random.randrange(5))]
            exits = [(3 + random.randrange(5), random.choice(names), None) for _ in range(random.randrange(5))]
            log = (entries, exits, random.choice([0, 2, "closed"]), random.choice([0, 5, "closed"]))
            for world in reference.worlds(kinds, log):
                expected = self.is_ordered_by_the_words(log, world)
                self.check(is_ordered, expected, log, world)
                self.order(kinds, log, world)
                words.append(expected)
        self.assertGreater(words.count(True), 200)
        self.assertGreater(words.count(False), 200)

    def test_worlds_of_several_kinds_and_with_plates(self):
        words = []
        for kinds, log in [*busy_logs(200), *small_logs(300)]:
            for world in reference.worlds(kinds, log):
                expected = self.is_ordered_by_the_words(log, world)
                self.check(is_ordered, expected, log, world)
                words.append(expected)
        self.assertGreater(words.count(False), 100)
        # A bus enters ahead of a car with a plate and leaves behind it.
        kinds = {"bus": (20, 30), "car": (5, 10)}
        log = ([(0, "bus", None), (3, "car", "AB12")], [(9, "car", "AB12"), (25, "bus", None)], 0, 0)
        self.check(is_ordered, False, log, [(0, 1), (1, 0)])
        self.check(is_ordered, True, log, [(0, 1)])
        self.assertTrue(is_world(kinds, log, [(0, 1), (1, 0)]))

    def test_equal_times(self):
        # Entries at the same time may leave in any order, and vehicles may leave at the same time.
        log = (cars([0, 0]), cars([8, 9]), 0, 0)
        self.check(is_ordered, True, log, [(0, 1), (1, 0)])
        self.order(CAR, log, [(0, 1), (1, 0)])
        log = (cars([0, 1]), cars([8, 8]), 0, 0)
        self.check(is_ordered, True, log, [(0, 1), (1, 0)])
        self.order(CAR, log, [(0, 1), (1, 0)])
        log = (cars([0, 0, 1, 1]), cars([8, 9, 9, 10]), 0, 0)
        self.check(is_ordered, True, log, [(0, 2), (1, 0), (2, 3), (3, 1)])
        self.check(is_ordered, False, log, [(0, 2), (1, 3), (2, 0), (3, 1)])
        self.check(is_ordered, False, log, [(0, 3), (1, 0), (2, 2), (3, 1)])
        self.order(CAR, log, [(0, 3), (1, 0), (2, 2), (3, 1)])
        log = (cars([0] * 4), cars([8] * 4), 0, 0)
        for order in permutations(range(4)):
            world = list(enumerate(order))
            self.check(is_ordered, True, log, world)
            self.order(CAR, log, world)

    def test_worlds_of_no_tuple_and_of_one(self):
        log = (cars([3, 0]), cars([8, 9]), 0, 0)
        for world in ([], [(0, 0)], [(0, 1)], [(1, 0)], [(1, 1)]):
            self.check(is_ordered, True, log, world)
            self.check(ordered_world, world, log, world)

    def test_lines_that_are_open_stay_open(self):
        log = (cars([2, 0, 1]), cars([8, 6, 7]), 0, 0)
        self.assertEqual(self.order(CAR, log, [(0, 2), (1, 0)]), [(0, 0), (1, 2)])
        self.assertEqual(self.order(CAR, log, [(1, 0), (2, 1)]), [(1, 1), (2, 0)])

    def test_overtaking_that_is_far_apart_in_the_list(self):
        times = list(range(0, 1600, 20))
        log = (cars(times), cars([time + 7 for time in times]), 0, 0)
        world = [(number, number) for number in range(80)]
        self.check(is_ordered, True, log, world)
        log = (cars(times), cars([time + 7 for time in times[:-1]] + [3]), 0, 0)
        self.check(is_ordered, False, log, world)
        log = (cars([*times[:-1], 10]), cars([time + 7 for time in times]), 0, 0)
        self.check(is_ordered, False, log, world)

    def test_many_lines(self):
        random = Random(21)
        kinds = {"car": (0, 1000)}
        for _ in range(20):
            log = (cars(random.choices(range(60), k=80)), cars(random.choices(range(60, 120), k=80)), 0, 0)
            world = list(enumerate(random.sample(range(80), 80)))
            world = sorted(random.sample(world, random.randrange(81)))
            self.order(kinds, log, world)
            self.assertIs(is_ordered(log, world), self.is_ordered_by_the_words(log, world))


class NamesTest(unittest.TestCase):
    def test_arguments_by_name(self):
        self.assertEqual(len(all_worlds(kinds=CAR, log=LOG, limit=2)), 2)
        self.assertIs(is_ordered(log=LOG, world=[(0, 0)]), True)
        self.assertEqual(ordered_world(log=LOG, world=[(0, 0)]), [(0, 0)])

    def test_functions_are_defined_in_this_file(self):
        for function in (all_worlds, is_ordered, ordered_world):
            self.assertEqual(function.__module__, "gatepairs.listing")

    def test_errors_are_gate_errors(self):
        with self.assertRaises(GateError):
            all_worlds(CAR, LOG, limit=0)


if __name__ == "__main__":
    unittest.main()
