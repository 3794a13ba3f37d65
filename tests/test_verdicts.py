import unittest
from itertools import product
from random import Random

from gatepairs.errors import Contradiction
from gatepairs.verdicts import certain_pairs, is_line_verdict, is_verdict, line_verdict, possible_pairs, verdict
from gatepairs.worlds import find_world
from tests import reference
from tests.case import Case
from tests.samples import (
    CAR,
    GATES,
    LOG,
    ODD,
    SHORT,
    WITHOUT_WORLD,
    busy_logs,
    cars,
    large_logs,
    later,
    same,
    shuffled,
    small_logs,
    spoilt,
    tight_log,
)

WORDS = ("certain", "undecided", "impossible", "open", "paired")
# Entry 1 fits the exit 0 only, so entry 0, which fits both exits, cannot take it.
TAKEN = (cars([1, 0]), cars([6, 11]), 0, "closed")
# The entry need not be paired, but the exit must be, and fits no other entry.
LATE_FLOOR = (cars([10]), cars([16]), 12, 0)
# Two vehicles that cannot be told apart, and a third one.
TWINS = (cars([0, 0, 50]), cars([5, 5, 55]), "closed", "closed")


class Verdicts(Case):
    def decide(self, kinds, log, entry, leaving):
        """A verdict on the pair, checked by the words of the document."""
        found = self.result(verdict, kinds, log, entry, leaving)
        self.assertTrue(reference.is_verdict(kinds, log, (entry, leaving), found), found)
        self.assertIs(is_verdict(kinds, log, entry, leaving, found), True)
        return found

    def decide_line(self, kinds, log, gate, number):
        """A verdict on the line, checked by the words of the document."""
        found = self.result(line_verdict, kinds, log, gate, number)
        self.assertTrue(reference.is_line_verdict(kinds, log, gate, number, found), found)
        self.assertIs(is_line_verdict(kinds, log, gate, number, found), True)
        return found


class PairTest(Verdicts):
    def test_examples(self):
        found = [verdict(CAR, LOG, 0, 0)[0], verdict(CAR, LOG, 1, 1)[0], verdict(CAR, LOG, 1, 0)[0]]
        self.assertEqual([*found, verdict(CAR, LOG, 0, 1)[2]], ["certain", "undecided", "impossible", None])
        self.assertTrue(same(certain_pairs(CAR, LOG), [(0, 0)]))
        self.assertTrue(same(possible_pairs(CAR, LOG), [(0, 0), (1, 1)]))

    def test_small_logs(self):
        words = []
        for kinds, log in [*small_logs(700), *busy_logs(150)]:
            if not reference.worlds(kinds, log):
                continue
            by_word = {"certain": [], "undecided": [], "impossible": []}
            for pair in reference.all_pairs(log):
                word = reference.verdict_word(kinds, log, pair)
                self.assertEqual(self.decide(kinds, log, *pair)[0], word)
                by_word[word].append(pair)
                words.append(word)
            self.assertTrue(same(self.result(certain_pairs, kinds, log), by_word["certain"]))
            possible = sorted(by_word["certain"] + by_word["undecided"])
            self.assertTrue(same(self.result(possible_pairs, kinds, log), possible))
        for word in ("certain", "undecided", "impossible"):
            self.assertGreater(words.count(word), 100)

    def test_impossible_pair_that_does_not_fit(self):
        self.assertTrue(same(self.decide(CAR, LOG, 0, 1)[2], None))
        log = (cars([0], "A"), cars([5], "B"), 0, 0)
        self.assertEqual(self.decide(CAR, log, 0, 0), ("impossible", [], None))

    def test_impossible_pair_that_fits(self):
        # The entry 1 keeps its number, although there is no entry 0 in the log without the two lines.
        self.assertEqual(self.decide(CAR, TAKEN, 0, 0), ("impossible", [(0, 1), (1, 0)], ("entries", [1])))
        self.assertEqual(self.decide(CAR, TAKEN, 0, 1)[0], "certain")
        self.assertEqual(self.decide(CAR, TAKEN, 1, 0)[0], "certain")
        # Here the exit 1 fits the entry 0 only.
        log = (cars([0, 6]), cars([11, 10]), "closed", 0)
        self.assertEqual(self.decide(CAR, log, 0, 1)[0], "certain")
        log = (cars([2, 6]), cars([11, 7]), "closed", 0)
        self.assertEqual(self.decide(CAR, log, 0, 0), ("impossible", [(0, 1), (1, 0)], ("exits", [1])))

    def test_evidence_does_not_name_lines_that_are_left_out(self):
        value = ("impossible", [(0, 1), (1, 0)], ("entries", [0, 1]))
        self.check(is_verdict, False, CAR, TAKEN, 0, 0, value)
        # Without the two lines, the entry 1 fits one line less. With the exit 0 it is no excess of the log itself.
        self.check(is_verdict, False, CAR, TAKEN, 0, 1, ("impossible", [(0, 1), (1, 0)], ("entries", [1])))

    def test_certain_pair_with_a_line_that_may_be_open(self):
        self.assertEqual(self.decide(CAR, LATE_FLOOR, 0, 0), ("certain", [(0, 0)], ("exits", [0])))
        self.check(is_verdict, False, CAR, LATE_FLOOR, 0, 0, ("certain", [(0, 0)], ("entries", [0])))
        self.assertEqual(self.decide(CAR, LOG, 0, 0), ("certain", [(0, 0)], ("entries", [0])))
        self.check(is_verdict, False, CAR, LOG, 0, 0, ("certain", [(0, 0)], ("exits", [0])))

    def test_undecided_pair(self):
        found = self.decide(CAR, TWINS, 0, 1)
        self.assertEqual(found, ("undecided", [(0, 1), (1, 0), (2, 2)], [(0, 0), (1, 1), (2, 2)]))
        self.assertEqual(self.decide(CAR, (cars([0]), cars([5]), 0, 0), 0, 0), ("undecided", [(0, 0)], []))

    def test_contradictory_logs(self):
        for log in WITHOUT_WORLD:
            self.check_contradiction(certain_pairs, CAR, log)
            self.check_contradiction(possible_pairs, CAR, log)
            for gate, lines in zip(GATES, log):
                for number in range(len(lines)):
                    self.check_contradiction(line_verdict, CAR, log, gate, number)
            for pair in reference.all_pairs(log):
                self.check_contradiction(verdict, CAR, log, *pair)
        with self.assertRaises(Contradiction) as caught:
            certain_pairs(CAR, WITHOUT_WORLD[0])
        self.assertTrue(same(caught.exception.excess, ("entries", [0])))

    def test_no_lines(self):
        for floors in product((0, 10 ** 9, "closed"), repeat=2):
            self.check(certain_pairs, [], CAR, ([], [], *floors))
            self.check(possible_pairs, [], CAR, ([], [], *floors))
        log = (cars([0, 50]), [], "closed", 0)
        self.check(certain_pairs, [], CAR, log)
        self.check(possible_pairs, [], CAR, log)
        self.assertEqual(self.decide_line(CAR, log, "entries", 1), ("open", []))

    def test_many_lines_in_one_world(self):
        diagonal = [(number, number) for number in range(80)]
        self.check(certain_pairs, diagonal, SHORT, tight_log())
        self.check(possible_pairs, diagonal, SHORT, tight_log())
        for entry, leaving in ((0, 0), (40, 40), (79, 79), (40, 41), (0, 1), (0, 2), (41, 40)):
            found = self.result(verdict, SHORT, tight_log(), entry, leaving)
            self.assertEqual(found[0], "certain" if entry == leaving else "impossible")
            self.assertTrue(is_verdict(SHORT, tight_log(), entry, leaving, found))

    def test_many_equal_lines(self):
        for floors in product((0, "closed"), repeat=2):
            log = (cars([0] * 80), cars([5] * 80), *floors)
            self.assertEqual(possible_pairs(CAR, log), list(product(range(80), repeat=2)))
            self.assertEqual(certain_pairs(CAR, log), [])
            found = verdict(CAR, log, 3, 70)
            self.assertEqual(found[0], "undecided")
            self.assertTrue(is_verdict(CAR, log, 3, 70, found))

    def test_many_vehicles_far_apart(self):
        times = [100 * number for number in range(80)]
        log = (cars(times), cars([time + 7 for time in times]), "closed", 4000)
        diagonal = [(number, number) for number in range(80)]
        # With an open entry gate the last entries may still have other exits, but not the exits other entries.
        self.check(certain_pairs, diagonal, CAR, log)
        self.check(possible_pairs, diagonal, CAR, log)
        log = (cars(times), cars([time + 7 for time in times]), 0, 4000)
        self.check(certain_pairs, diagonal[:40], CAR, log)
        self.check(possible_pairs, diagonal, CAR, log)

    def test_large_logs(self):
        random = Random(14)
        words = []
        for kinds, log in large_logs(60):
            try:
                world = find_world(kinds, log)
            except Contradiction:
                self.check_contradiction(certain_pairs, kinds, log)
                self.check_contradiction(possible_pairs, kinds, log)
                continue
            certain = self.result(certain_pairs, kinds, log)
            possible = self.result(possible_pairs, kinds, log)
            self.assertTrue(set(certain) <= set(world) <= set(possible))
            for pair in [random.choice(world), random.choice(possible), (random.randrange(80), random.randrange(80))]:
                found = verdict(kinds, log, *pair)
                words.append(found[0])
                self.assertTrue(is_verdict(kinds, log, *pair, found))
                self.assertEqual([found[0] == "certain", found[0] != "impossible"], [pair in certain, pair in possible])
        self.assertTrue(all(words.count(word) > 10 for word in ("certain", "undecided", "impossible")))


class LineTest(Verdicts):
    def test_examples(self):
        found = [line_verdict(CAR, LOG, "entries", 0), line_verdict(CAR, LOG, "entries", 1)]
        words = [value[0] for value in [*found, line_verdict(CAR, LOG, "exits", 0)]]
        self.assertEqual(words, ["paired", "open", "paired"])

    def test_small_logs(self):
        words = []
        for kinds, log in [*small_logs(500), *busy_logs(100)]:
            if not reference.worlds(kinds, log):
                continue
            for gate, lines in zip(GATES, log):
                for number in range(len(lines)):
                    found = self.decide_line(kinds, log, gate, number)
                    may_be_open = bool(reference.open_worlds(kinds, log, gate, number))
                    self.assertEqual(found[0], "open" if may_be_open else "paired")
                    words.append((found[0], found[-1] is None, gate))
        for gate in GATES:
            self.assertGreater(words.count(("open", False, gate)), 100)
            self.assertGreater(words.count(("paired", True, gate)), 50)
            self.assertGreater(words.count(("paired", False, gate)), 10)

    def test_line_that_may_be_open_and_is_paired_in_every_world(self):
        self.assertEqual(self.decide_line(CAR, LATE_FLOOR, "entries", 0), ("paired", [(0, 0)], ("exits", [0])))
        self.assertEqual(self.decide_line(CAR, LATE_FLOOR, "exits", 0), ("paired", [(0, 0)], None))
        self.assertEqual(self.decide_line(CAR, LOG, "exits", 0), ("paired", [(0, 0)], ("entries", [0])))
        self.assertEqual(self.decide_line(CAR, LOG, "entries", 0), ("paired", [(0, 0)], None))

    def test_open_line(self):
        self.assertEqual(self.decide_line(CAR, LOG, "entries", 1), ("open", [(0, 0)]))
        self.assertEqual(self.decide_line(CAR, LOG, "exits", 1), ("open", [(0, 0)]))
        # The other entry has to take the exit, so that this one can be open.
        log = (cars([0, 0]), cars([6]), 2, 0)
        for number in (0, 1):
            self.assertEqual(self.decide_line(CAR, log, "entries", number), ("open", [(1 - number, 0)]))

    def test_large_logs(self):
        random = Random(15)
        for kinds, log in large_logs(40):
            for gate in GATES:
                number = random.randrange(80)
                try:
                    found = self.result(line_verdict, kinds, log, gate, number)
                except Contradiction:
                    self.check_contradiction(line_verdict, kinds, log, gate, number)
                    continue
                self.assertTrue(is_line_verdict(kinds, log, gate, number, found))


class JudgeTest(Verdicts):
    def all_values(self, log):
        """Each tuple of a word, a list of pairs and what evidence can be."""
        lists = reference.subsets(reference.all_pairs(log))
        chosen = [("entries", numbers) for numbers in reference.subsets(range(len(log[0])))]
        chosen += [("exits", numbers) for numbers in reference.subsets(range(len(log[1])))]
        for word in WORDS:
            for world in lists:
                yield word, world
                for evidence in [None, *lists, *chosen]:
                    yield word, world, evidence

    def judged_logs(self):
        """Consistent logs with at most two lines a gate: some from everywhere, some with a certain pair."""
        logs = [(kinds, log) for kinds, log in [*small_logs(1000), *busy_logs(300)] if reference.worlds(kinds, log)]
        logs = [(kinds, log) for kinds, log in logs if {len(log[0]), len(log[1])} <= {1, 2}]
        certain = [(kinds, log) for kinds, log in logs if certain_pairs(kinds, log) and len(log[0]) + len(log[1]) > 2]
        return logs[::5] + certain[::4]

    def test_all_values_for_small_logs(self):
        right = []
        for kinds, log in self.judged_logs():
            values = list(self.all_values(log))
            for pair in reference.all_pairs(log):
                for value in values:
                    expected = reference.is_verdict(kinds, log, pair, value)
                    self.assertIs(is_verdict(kinds, log, *pair, value), expected)
                    right += [value[0]] * expected
            for gate, lines in zip(GATES, log):
                for number in range(len(lines)):
                    for value in values:
                        expected = reference.is_line_verdict(kinds, log, gate, number, value)
                        self.assertIs(is_line_verdict(kinds, log, gate, number, value), expected)
                        right += [value[0]] * expected
        self.assertTrue(all(right.count(word) > 20 for word in WORDS))

    def test_values_that_are_wrong_in_one_part(self):
        cases = [(TAKEN, pair) for pair in reference.all_pairs(TAKEN)] + [(LATE_FLOOR, (0, 0)), (LOG, (1, 1))]
        cases += [(LOG, (0, 1)), (TWINS, (0, 0))]
        for log, pair in cases:
            for value in spoilt(verdict(CAR, log, *pair)):
                expected = reference.is_verdict(CAR, log, pair, value)
                self.check(is_verdict, expected, CAR, log, *pair, value)
        for log in (TAKEN, LATE_FLOOR, LOG, TWINS):
            for gate, lines in zip(GATES, log):
                for number in range(len(lines)):
                    for value in spoilt(line_verdict(CAR, log, gate, number)):
                        expected = reference.is_line_verdict(CAR, log, gate, number, value)
                        self.check(is_line_verdict, expected, CAR, log, gate, number, value)

    def wrong_pair_verdicts(self):
        world = [(0, 1), (1, 0)]
        excess = ("entries", [1])
        right = ("impossible", world, excess)
        wrong = [right[:2], (*right, None), (*right, excess), list(right), (right,), [right], (), right[1:], right[:1]]
        wrong += [(["impossible"], *right[1:]), ("Impossible", *right[1:]), ("impossible ", *right[1:])]
        wrong += [("certain", *right[1:]), ("undecided", *right[1:]), ("paired", *right[1:]), ("", *right[1:])]
        wrong += [("open", *right[1:]), (None, *right[1:]), (True, *right[1:]), (("impossible",), *right[1:])]
        wrong += [("impossible", tuple(world), excess), ("impossible", [[0, 1], [1, 0]], excess)]
        wrong += [("impossible", world[::-1], excess), ("impossible", [(0, 0)], excess)]
        wrong += [("impossible", [(1, 0)], excess), ("impossible", [(0, 1), (1, False)], excess)]
        wrong += [("impossible", [(False, 1), (1, 0)], excess)]
        wrong += [("impossible", [(0, 1), (1, 0), (1, 1)], excess), ("impossible", [], excess)]
        wrong += [("impossible", None, excess), ("impossible", [*world, None], excess)]
        wrong += [("impossible", [(0, 1), (1, 0), (2, 2)], excess)]
        wrong += [("impossible", world, value) for value in (None, ["entries", [1]], ("entries", (1,)), ("exits", [1]))]
        lists = [[0], [0, 1], [], [True], [2], [1, 1], [-1], 1]
        wrong += [("impossible", world, ("entries", value)) for value in lists]
        values = [world, [], ("entries",), ("entries", [1], None), "entries"]
        wrong += [("impossible", world, value) for value in values]
        return right, wrong

    def test_pair_verdicts_with_one_thing_changed(self):
        right, wrong = self.wrong_pair_verdicts()
        self.check(is_verdict, True, CAR, TAKEN, 0, 0, right)
        self.check_values(is_verdict, False, [*wrong, *ODD], CAR, TAKEN, 0, 0)
        for pair in ((0, 1), (1, 0), (1, 1)):
            self.check(is_verdict, False, CAR, TAKEN, *pair, right)

    def test_none_and_excess(self):
        # Lines that do not fit need no evidence, although there may be an excess of the log without them.
        self.assertEqual(self.decide(CAR, TAKEN, 1, 1), ("impossible", [(0, 1), (1, 0)], None))
        world = [(0, 1), (1, 0)]
        for excess in (("entries", [0]), ("entries", [1]), ("exits", [0]), ("exits", [1])):
            self.check(is_verdict, False, CAR, TAKEN, 1, 1, ("impossible", world, excess))
        self.check(is_verdict, False, CAR, LATE_FLOOR, 0, 0, ("certain", [(0, 0)], None))
        self.check(is_line_verdict, False, CAR, LATE_FLOOR, "exits", 0, ("paired", [(0, 0)], ("exits", [0])))
        self.check(is_line_verdict, False, CAR, LATE_FLOOR, "entries", 0, ("paired", [(0, 0)], None))
        self.check(is_line_verdict, False, CAR, LATE_FLOOR, "entries", 0, ("paired", [(0, 0)], ("entries", [0])))
        # Without an entry that must be paired, its exit may lack one. That is no evidence for a must line.
        log = (cars([0]), cars([5]), "closed", "closed")
        self.check(is_line_verdict, False, CAR, log, "entries", 0, ("paired", [(0, 0)], ("exits", [0])))
        self.check(is_line_verdict, True, CAR, log, "entries", 0, ("paired", [(0, 0)], None))

    def test_line_verdicts_with_one_thing_changed(self):
        right = ("paired", [(0, 0)], ("exits", [0]))
        wrong = [right[:2], (*right, None), list(right), right[1:], ("open", *right[1:]), ("open", [(0, 0)])]
        wrong += [("open", []), ("Paired", *right[1:]), ("certain", *right[1:]), (None, *right[1:]), ([], *right[1:])]
        worlds = [[], [(0, False)], [[0, 0]], ((0, 0),), None, [(0, 1)]]
        wrong += [("paired", world, ("exits", [0])) for world in worlds]
        values = [["exits", [0]], ("exits", []), ("exits", [False]), ("exits", (0,)), ("entries", [0])]
        values += [("exits", [0, 0]), ("exits", [1]), None, []]
        wrong += [("paired", [(0, 0)], value) for value in values]
        self.check(is_line_verdict, True, CAR, LATE_FLOOR, "entries", 0, right)
        self.check_values(is_line_verdict, False, [*wrong, *ODD], CAR, LATE_FLOOR, "entries", 0)
        right = ("open", [(0, 0)])
        wrong = [(*right, None), (*right, ("exits", [0])), list(right), ("open",), ("paired", [(0, 0)])]
        wrong += [("Open", [(0, 0)]), ("paired", [(0, 0)], None), ("open", [(0, 0), (1, 1)]), ("open", [])]
        wrong += [("open", ((0, 0),)), ("open", None), (True, [(0, 0)]), (["open"], [(0, 0)])]
        wrong += [("open", [(False, 0)]), ("open", [[0, 0]])]
        for gate in GATES:
            self.check(is_line_verdict, True, CAR, LOG, gate, 1, right)
            self.check(is_line_verdict, False, CAR, LOG, gate, 0, right)
            self.check_values(is_line_verdict, False, [*wrong, *ODD], CAR, LOG, gate, 1)

    def test_contradictory_logs(self):
        for log in WITHOUT_WORLD:
            values = [*self.all_values(log), *ODD] if len(log[0]) * len(log[1]) <= 2 else ODD
            values += [("certain", [(0, 0)], excess) for excess in reference.excesses(CAR, log)]
            values += [("impossible", [], None), ("paired", [], None)]
            for pair in reference.all_pairs(log):
                self.check_values(is_verdict, False, values, CAR, log, *pair)
            for gate, lines in zip(GATES, log):
                for number in range(len(lines)):
                    self.check_values(is_line_verdict, False, values, CAR, log, gate, number)


class ChangedLogTest(Verdicts):
    def test_another_order_of_the_lines(self):
        random = Random(17)
        for kinds, log in [*small_logs(150), *busy_logs(100)]:
            if reference.worlds(kinds, log):
                other, orders = shuffled(random, log)
                for pair in reference.all_pairs(other):
                    old = (orders[0][pair[0]], orders[1][pair[1]])
                    self.assertEqual(verdict(kinds, other, *pair)[0], verdict(kinds, log, *old)[0])
                for place, gate in enumerate(GATES):
                    for number, old in enumerate(orders[place]):
                        found = line_verdict(kinds, other, gate, number)
                        self.assertEqual(found[0], line_verdict(kinds, log, gate, old)[0])

    def test_later_times(self):
        for kinds, log in [*small_logs(150), *busy_logs(100)]:
            if reference.worlds(kinds, log):
                for delay in (1, 1000, 10 ** 8):
                    other = later(log, delay)
                    for pair in reference.all_pairs(log):
                        self.assertEqual(verdict(kinds, other, *pair), verdict(kinds, log, *pair))
                    for gate, lines in zip(GATES, log):
                        for number in range(len(lines)):
                            found = line_verdict(kinds, other, gate, number)
                            self.assertEqual(found, line_verdict(kinds, log, gate, number))


class NamesTest(unittest.TestCase):
    def test_arguments_by_name(self):
        found = verdict(kinds=CAR, log=LOG, entry_number=0, exit_number=0)
        self.assertIs(is_verdict(kinds=CAR, log=LOG, entry_number=0, exit_number=0, value=found), True)
        found = line_verdict(kinds=CAR, log=LOG, gate="exits", number=1)
        self.assertIs(is_line_verdict(kinds=CAR, log=LOG, gate="exits", number=1, value=found), True)
        self.assertEqual(certain_pairs(kinds=CAR, log=LOG), [(0, 0)])
        self.assertEqual(possible_pairs(kinds=CAR, log=LOG), [(0, 0), (1, 1)])

    def test_functions_are_defined_in_this_file(self):
        for function in (verdict, is_verdict, line_verdict, is_line_verdict, certain_pairs, possible_pairs):
            self.assertEqual(function.__module__, "gatepairs.verdicts")


if __name__ == "__main__":
    unittest.main()
