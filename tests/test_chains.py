import unittest
from itertools import product
from random import Random

from gatepairs.chains import certain_ways, is_chain, segments, way_verdict
from gatepairs.errors import Contradiction
from gatepairs.lines import is_kinds, is_log
from gatepairs.worlds import is_excess, is_world
from tests import reference
from tests.case import Case
from tests.samples import ODD, same, spoilt

CHAIN = (
    [{"car": (5, 10)}, {"car": (3, 4)}],
    [[(0, "car"), (2, "car")], [(5, "car"), (12, "car")], [(9, "car"), (15, "car")]],
    "closed",
    "closed",
)


def car_chain(gates, first_floor="closed", last_floor="closed", travel=(5, 10)):
    """A chain of cars, where the times at each gate are given."""
    tables = [{"car": travel} for _ in gates[1:]]
    return tables, [[(time, "car") for time in times] for times in gates], first_floor, last_floor


def random_chain(random):
    """A chain of three or four gates that often has a world."""
    names = random.choice([["car"], ["car", "van"]])
    many = random.randrange(3, 5)
    tables = [{name: random.choice([(1, 2), (1, 4), (0, 3)]) for name in names} for _ in range(many - 1)]
    vehicles = [(random.randrange(4), random.choice(names)) for _ in range(random.randrange(1, 4))]
    gates = []
    for number in range(many):
        gate = [(time + sum(random.randint(1, 2) for _ in range(number)), name) for time, name in vehicles]
        if number in (0, many - 1):
            gate = [(time, random.choice([name, None])) for time, name in gate]
        random.shuffle(gate)
        gates.append(gate)
    if random.randrange(4) == 0:
        gate = random.choice(gates)
        gate[:] = gate[1:] if random.randrange(2) else [*gate, (random.randrange(9), names[0])]
    return tables, gates, random.choice(["closed", "closed", 0, 1]), random.choice(["closed", "closed", 4, 8])


def chain_worlds(chain):
    """All worlds of the chain, or the number of the first segment that has none."""
    found = []
    for number, (kinds, log) in enumerate(segments(chain)):
        worlds = reference.worlds(kinds, log)
        if not worlds:
            return number
        found.append(worlds)
    return list(product(*found))


def way_in(worlds, first):
    """The lines that the first line is led to in a world of the chain: of all gates, or as far as it comes."""
    way = (first,)
    for world in worlds:
        way += tuple(leaving for entry, leaving in world if entry == way[-1])
    return way


def joined(worlds, first, last):
    """True if the two lines are connected in the world of the chain."""
    way = way_in(worlds, first)
    return len(way) == len(worlds) + 1 and way[-1] == last


class IsChainTest(Case):
    def check_chains(self, expected, *values):
        self.check_values(is_chain, expected, values)

    def test_example(self):
        self.check_chains(True, CHAIN)

    def test_three_to_seven_gates(self):
        for many in range(10):
            self.check_chains(3 <= many <= 7, car_chain([[]] * many), car_chain([[number] for number in range(many)]))
        # There is one table for each segment.
        for tables, gates in product(range(9), range(9)):
            chain = ([{"car": (1, 2)}] * tables, [[(3, "car")]] * gates, 0, 0)
            self.check_chains(3 <= gates <= 7 and tables == gates - 1, chain)

    def test_forty_lines(self):
        for place in range(3):
            for many in (0, 39, 40, 41, 80):
                gates = [[], [], []]
                gates[place] = list(range(many))
                self.check_chains(many <= 40, car_chain(gates))

    def test_names_of_the_tables(self):
        gates = [[], [], [], []]
        first, other = {"car": (5, 10), "bus": (8, 20)}, {"bus": (0, 0), "car": (1, 10 ** 6)}
        self.check_chains(True, ([first, other, first], gates, 0, 0), ([first, first, other], gates, 0, 0))
        for wrong in ({"car": (5, 10)}, {**first, "van": (1, 2)}, {"car": (5, 10), "van": (8, 20)}, {"bus": (8, 20)}):
            for place in range(3):
                tables = [first, other, first]
                tables[place] = wrong
                self.check_chains(False, (tables, gates, 0, 0))

    def test_tables_are_kinds_tables(self):
        eight = {name: (0, 1) for name in "abcdefgh"}
        self.check_chains(True, ([eight, eight], [[], [], []], 0, 0))
        wrong_tables = [{**eight, "i": (0, 1)}, {}, {"car": (5, 4)}, {"Car": (5, 10)}, {"car": [5, 10]}]
        for wrong in [*wrong_tables, {"car": (True, 1)}]:
            self.check_chains(False, ([wrong, wrong], [[], [], []], 0, 0))
            self.check_chains(False, ([{"car": (1, 2)}, wrong], [[], [], []], 0, 0))
            self.check_chains(False, ([wrong, {"car": (1, 2)}], [[], [], []], 0, 0))

    def test_kind_none(self):
        for many in (3, 5, 7):
            for place in range(many):
                tables, gates, *floors = car_chain([[4, 5]] * many)
                gates[place] = [(4, "car"), (5, None)]
                self.check_chains(place in (0, many - 1), (tables, gates, *floors))

    def test_lines(self):
        right = [(0, "car"), (10 ** 9, "car")]
        wrong = [(0, "car", None), (0,), (), [0, "car"], (-1, "car"), (10 ** 9 + 1, "car"), (True, "car")]
        wrong += [(False, None), (0, "van"), (0, ""), (0, ["car"]), (0, True), (0, 0), (None, "car"), ("0", "car")]
        wrong += [("car", 0), None, 0, "ab"]
        for place in range(3):
            for line in [*right, *wrong]:
                for lines in ([line], [(1, "car"), line], [line, (1, "car")]):
                    tables, gates, *floors = car_chain([[], [3], []])
                    gates[place] = lines
                    self.check_chains(line in right, (tables, gates, *floors))

    def test_floors(self):
        for floor in (0, 1, 10 ** 9, "closed"):
            self.check_chains(True, car_chain([[], [], []], floor, 5), car_chain([[], [], []], "closed", floor))
        for floor in (-1, 10 ** 9 + 1, True, False, None, "open", "", "0", [], (), ["closed"], {}, 10 ** 5000):
            self.check_chains(False, car_chain([[], [], []], floor, 5), car_chain([[], [], []], "closed", floor))

    def test_forms(self):
        tables, gates, first, last = CHAIN
        wrong = [list(CHAIN), CHAIN[:3], (*CHAIN, "closed"), (gates, tables, first, last), (), (CHAIN,), [CHAIN]]
        wrong += [(tuple(tables), gates, first, last), (tables, tuple(gates), first, last)]
        wrong += [(tables[0], gates, first, last), (tables, gates[0], first, last)]
        wrong += [(tables, [tuple(gate) for gate in gates], first, last)]
        wrong += [(tables, [*gates[:2], None], first, last), (tables, [[gate] for gate in gates], first, last)]
        wrong += [(tables, {0: gates}, first, last), ({0: tables}, gates, first, last), (None, None, None, None)]
        self.check_chains(False, *wrong)

    def test_other_values(self):
        self.check_chains(False, *ODD)

    def test_values_that_are_wrong_in_one_part(self):
        # The odd values that may stand there: the travel times (0, 0), the shortest ones 0 and 1, the times 0, 1 and
        # 10**9, the kind "car", the kind None at an end, and the floors 0, 1, 10**9 and "closed".
        right = [value for value in spoilt(CHAIN) if is_chain(value)]
        self.assertEqual(len(right), 2 * (1 + 2) + 6 * (3 + 1) + 4 + 2 * 4)
        # Nothing has changed if the time 0 is 0, if a kind is "car", or if a floor is "closed".
        self.assertEqual(sum(same(value, CHAIN) for value in right), 1 + 6 + 2)


class SegmentsTest(Case):
    def test_example(self):
        log = ([(5, "car", None), (12, "car", None)], [(9, "car", None), (15, "car", None)], "closed", "closed")
        self.assertTrue(same(self.result(segments, CHAIN)[1], ({"car": (3, 4)}, log)))

    def test_floors_of_the_ends(self):
        for first, last in product((0, 7, 10 ** 9, "closed"), repeat=2):
            for many in range(3, 8):
                found = self.result(segments, car_chain([[number] for number in range(many)], first, last))
                floors = [log[2:] for _, log in found]
                inner = [("closed", "closed")] * (many - 3)
                self.assertTrue(same(floors, [(first, "closed"), *inner, ("closed", last)]))

    def test_tables_and_lines(self):
        tables = [{"car": (5, 10), "bus": (8, 20)}, {"bus": (1, 2), "car": (3, 4)}, {"car": (0, 0), "bus": (6, 6)}]
        gates = [[(9, None), (3, "car")], [(10, "bus")], [], [(10 ** 9, None), (0, "bus"), (0, "bus")]]
        chain = (tables, gates, 5, "closed")
        self.check(is_chain, True, chain)
        lines = [[(time, kind, None) for time, kind in gate] for gate in gates]
        expected = [
            (tables[0], (lines[0], lines[1], 5, "closed")),
            (tables[1], (lines[1], lines[2], "closed", "closed")),
            (tables[2], (lines[2], lines[3], "closed", "closed")),
        ]
        found = self.result(segments, chain)
        self.assertTrue(same(found, expected))
        self.assertTrue(all(is_kinds(kinds) and is_log(kinds, log) for kinds, log in found))


class WaysTest(Case):
    def decide(self, chain, first, last):
        """The verdict on the two lines. All of it is checked that can be seen without the list of all worlds."""
        found = self.result(way_verdict, chain, first, last)
        parts = segments(chain)
        if found[0] == "certain":
            self.assertEqual([len(found), len(found[1]), found[1][0], found[1][-1]], [2, len(chain[1]), first, last])
            self.assertIn(found[1], certain_ways(chain))
        elif found[0] == "undecided":
            self.assertEqual(len(found), 3)
            for worlds, expected in zip(found[1:], (True, False)):
                self.assertIs(type(worlds), list)
                self.assertEqual(len(worlds), len(parts))
                self.assertTrue(all(is_world(kinds, log, world) for (kinds, log), world in zip(parts, worlds)))
                self.assertIs(joined(worlds, first, last), expected)
        else:
            self.assertTrue(same(found, ("impossible",)))
        return found

    def check_chain_contradiction(self, chain, number):
        """Both functions raise Contradiction with an excess of the segment with this number."""
        kinds, log = segments(chain)[number]
        for function, arguments in ((way_verdict, (0, 0)), (certain_ways, ())):
            with self.assertRaises(Contradiction) as caught:
                function(chain, *arguments)
            self.assertIs(is_excess(kinds, log, caught.exception.excess), True)

    def test_examples(self):
        found = [way_verdict(CHAIN, 1, 1), way_verdict(CHAIN, 0, 1)]
        self.assertTrue(same(found, [("certain", (1, 1, 1)), ("impossible",)]))
        self.assertTrue(same(certain_ways(CHAIN), [(0, 0, 0), (1, 1, 1)]))

    def test_small_chains(self):
        random = Random(30)
        words = []
        for _ in range(700):
            chain = random_chain(random)
            self.assertTrue(is_chain(chain))
            worlds = chain_worlds(chain)
            if isinstance(worlds, int):
                self.check_chain_contradiction(chain, worlds)
                words.append(worlds)
                continue
            for first, last in product(range(len(chain[1][0])), range(len(chain[1][-1]))):
                found = [joined(world, first, last) for world in worlds]
                expected = "certain" if all(found) else "undecided" if any(found) else "impossible"
                self.assertEqual(self.decide(chain, first, last)[0], expected)
                words.append(expected)
            ways = {way for world in worlds for way in (way_in(world, first) for first in range(len(chain[1][0])))}
            ways = [way for way in ways if len(way) == len(chain[1])]
            certain = [way for way in ways if all(way == way_in(world, way[0]) for world in worlds)]
            self.assertTrue(same(self.result(certain_ways, chain), sorted(certain)))
        for word in ("certain", "undecided", "impossible", 0, 1, 2):
            self.assertGreater(words.count(word), 20, word)

    def test_certain_in_each_segment_although_worlds_are_many(self):
        # The two last vehicles cannot be told apart, which does not touch the first one.
        chain = car_chain([[0, 50, 50], [7, 57, 57], [14, 64, 64]])
        self.assertEqual(self.decide(chain, 0, 0), ("certain", (0, 0, 0)))
        words = [self.decide(chain, 1, last)[0] for last in range(3)]
        self.assertEqual(words, ["impossible", "undecided", "undecided"])
        self.assertEqual(certain_ways(chain), [(0, 0, 0)])

    def test_certain_in_one_segment_and_undecided_in_another_one(self):
        # The cars meet in one of the segments only.
        for gates in ([[0, 50], [7, 57], [62, 62]], [[0, 0], [5, 10], [10, 20]]):
            chain = car_chain(gates, travel=(0, 60))
            self.assertEqual(certain_ways(chain), [])
        chain = ([{"car": (5, 10)}, {"car": (0, 60)}], car_chain([[0, 50], [7, 57], [62, 62]])[1], "closed", "closed")
        for first, last in product(range(2), repeat=2):
            self.assertEqual(self.decide(chain, first, last)[0], "undecided")
        self.assertEqual(certain_ways(chain), [])
        chain = ([{"car": (0, 60)}, {"car": (5, 10)}], car_chain([[0, 0], [5, 50], [12, 57]])[1], "closed", "closed")
        for first, last in product(range(2), repeat=2):
            self.assertEqual(self.decide(chain, first, last)[0], "undecided")
        self.assertEqual(certain_ways(chain), [])

    def test_lines_that_may_be_open(self):
        # One of the cars has left, and the other one may be on the road.
        chain = car_chain([[0, 7], [10, 12], [18]], last_floor=20)
        self.assertEqual([self.decide(chain, first, 0)[0] for first in range(2)], ["undecided", "undecided"])
        chain = (*chain[:3], 21)
        self.assertEqual([self.decide(chain, first, 0)[0] for first in range(2)], ["certain", "impossible"])
        self.assertEqual(certain_ways(chain), [(0, 0, 0)])
        # The car at the second gate may have entered unseen.
        chain = car_chain([[], [7], [14]], first_floor=2)
        self.assertEqual(certain_ways(chain), [])
        self.check_chain_contradiction((*chain[:2], 3, "closed"), 0)

    def test_ends_without_lines(self):
        chain = car_chain([[], [], []])
        self.check(certain_ways, [], chain)
        self.check(certain_ways, [], car_chain([[], [], []], 0, 0))

    def test_first_contradictory_segment(self):
        good, bad = [0, 7, 14, 21, 28, 35, 42], 500
        for wrong in range(7):
            times = [[time] for time in good]
            times[wrong] = [bad]
            self.check_chain_contradiction(car_chain(times), max(0, wrong - 1))
        # Both segments are contradictory, by other lines.
        chain = car_chain([[0, 1], [6], [13, 14]])
        with self.assertRaises(Contradiction) as caught:
            certain_ways(chain)
        self.assertTrue(same(caught.exception.excess, ("entries", [0, 1])))
        chain = car_chain([[0], [6], [13, 14]])
        for function, arguments in ((way_verdict, (0, 1)), (certain_ways, ())):
            with self.assertRaises(Contradiction) as caught:
                function(chain, *arguments)
            self.assertTrue(same(caught.exception.excess, ("exits", [0, 1])))

    def test_order_of_the_ways(self):
        times = [500, 0, 900, 300]
        gates = [times, [time + 7 for time in times[::-1]], [time + 14 for time in times]]
        self.assertEqual(self.result(certain_ways, car_chain(gates)), [(0, 3, 0), (1, 2, 1), (2, 1, 2), (3, 0, 3)])
        gates = [times, [time + 7 for time in times], [time + 14 for time in times[::-1]]]
        self.assertEqual(self.result(certain_ways, car_chain(gates)), [(0, 0, 3), (1, 1, 2), (2, 2, 1), (3, 3, 0)])

    def test_tables_of_each_segment(self):
        # The bus overtakes the car in the first segment, and the car the bus in the second one.
        tables = [{"bus": (1, 2), "car": (20, 30)}, {"bus": (20, 30), "car": (1, 2)}]
        gates = [[(0, "car"), (10, "bus")], [(12, "bus"), (25, "car")], [(26, None), (33, None)]]
        chain = (tables, gates, "closed", "closed")
        self.assertEqual(certain_ways(chain), [(0, 1, 0), (1, 0, 1)])
        self.assertEqual(self.decide(chain, 0, 0), ("certain", (0, 1, 0)))
        self.assertEqual(self.decide(chain, 0, 1), ("impossible",))

    def test_ten_vehicles_that_cannot_be_told_apart_at_the_first_gate(self):
        times = [100 * number for number in range(10)]
        gates = [[0] * 10, times, [time + 7 for time in times], [time + 14 for time in times]]
        tables = [{"car": (0, 1000)}, {"car": (5, 10)}, {"car": (5, 10)}]
        chain = (tables, car_chain(gates)[1], "closed", "closed")
        self.assertEqual(self.result(certain_ways, chain), [])
        for first, last in product(range(10), repeat=2):
            self.assertEqual(self.decide(chain, first, last)[0], "undecided")

    def test_forty_vehicles_far_apart(self):
        times = [100 * number for number in range(40)]
        for many in (3, 7):
            gates = [[time + 7 * number for time in times] for number in range(many)]
            ways = [(number,) * many for number in range(40)]
            self.assertTrue(same(self.result(certain_ways, car_chain(gates)), ways))
            self.assertTrue(same(self.decide(car_chain(gates), 20, 20), ("certain", ways[20])))
            self.assertEqual(self.decide(car_chain(gates), 20, 21), ("impossible",))

    def test_forty_equal_vehicles(self):
        chain = car_chain([[0] * 40, [7] * 40, [14] * 40])
        self.assertEqual(self.result(certain_ways, chain), [])
        self.assertEqual(self.decide(chain, 5, 30)[0], "undecided")

    def test_worlds_that_connect_already_and_do_not(self):
        # Whatever worlds are found first, for one of these pairs they connect the lines, and for others they do not.
        chain = car_chain([[0, 0, 0], [7, 7, 7], [14, 14, 14], [21, 21, 21]])
        for first, last in product(range(3), repeat=2):
            self.assertEqual(self.decide(chain, first, last)[0], "undecided")


class NamesTest(unittest.TestCase):
    def test_arguments_by_name(self):
        self.assertIs(is_chain(value=CHAIN), True)
        self.assertEqual(len(segments(chain=CHAIN)), 2)
        self.assertEqual(way_verdict(chain=CHAIN, first=1, last=1), ("certain", (1, 1, 1)))
        self.assertEqual(len(certain_ways(chain=CHAIN)), 2)

    def test_functions_are_defined_in_this_file(self):
        for function in (is_chain, segments, way_verdict, certain_ways):
            self.assertEqual(function.__module__, "gatepairs.chains")


if __name__ == "__main__":
    unittest.main()
