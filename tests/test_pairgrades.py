import unittest
from itertools import product
from random import Random

from gatepairs.graded import graded_repair
from gatepairs.pairgrades import is_pair_grade, pair_grade, sure_pairs
from gatepairs.verdicts import certain_pairs, verdict
from tests import reference
from tests.case import Case
from tests.loose import THRESHOLDS, Loose, crowded_logs, random_trusts, with_trusts
from tests.samples import (
    CAR,
    GATES,
    LOG,
    ODD,
    SHORT,
    WITHOUT_WORLD,
    busy_logs,
    cars,
    large_logs,
    same,
    small_logs,
    spoilt,
    tight_log,
)

EXAMPLE = (cars([0, 1]), cars([6]), 0, "closed")
# The entry 0 fits the exits 0 and 1, the entry 1 the exit 1 only, and the entry 2 fits nothing.
WITH_A_GHOST = (cars([0, 3, 50]), cars([7, 9]), "closed", "closed")
# The entry 0 fits both exits, the entry 1 the exit 1 only.
CHAIN = (cars([0, 5]), cars([7, 10]), "closed", "closed")


class PairCase(Case):
    def grade(self, kinds, log, trusts, pair):
        """A grade of the pair, which the judge accepts."""
        found = self.result(pair_grade, kinds, log, trusts, *pair)
        self.check(is_pair_grade, True, kinds, log, trusts, *pair, found)
        return found

    def words(self, kinds, log, trusts):
        return {pair: self.grade(kinds, log, trusts, pair)[0] for pair in reference.all_pairs(log)}


class GradeTest(PairCase):
    def test_example(self):
        found = [self.grade(CAR, EXAMPLE, ([3, 8], [5]), (number, 0))[0] for number in (0, 1)]
        self.assertEqual(found, ["impossible", "certain"])
        self.check(pair_grade, ("undecided", [(0, 0)], [(1, 0)]), CAR, EXAMPLE, ([4, 4], [5]), 0, 0)
        self.check(sure_pairs, [(1, 0)], CAR, EXAMPLE, ([3, 8], [5]))

    def test_small_logs(self):
        found = []
        for kinds, log, trusts in with_trusts([*small_logs(400), *busy_logs(100), *crowded_logs(500)], 11):
            loose = Loose(kinds, log, trusts)
            certain = []
            for pair in reference.all_pairs(log):
                value = self.grade(kinds, log, trusts, pair)
                self.assertTrue(loose.is_pair_grade(pair, value), (kinds, log, trusts, pair, value))
                evidence = value[2][0] if isinstance(value[2], tuple) else None
                found.append((value[0], evidence))
                certain += [pair] if value[0] == "certain" else []
            self.assertTrue(same(self.result(sure_pairs, kinds, log, trusts), certain))
        for gate in GATES:
            self.assertGreater(found.count(("certain", gate)), 60)
            self.assertGreater(found.count(("impossible", gate)), 60)
        self.assertGreater(found.count(("impossible", None)), 60)
        self.assertGreater(found.count(("undecided", None)), 60)

    def test_each_trust(self):
        for first in THRESHOLDS:
            for second in THRESHOLDS:
                words = self.words(CAR, EXAMPLE, ([first, second], [5]))
                if first == second:
                    self.assertEqual(words, {(0, 0): "undecided", (1, 0): "undecided"})
                elif first < second:
                    self.assertEqual(words, {(0, 0): "impossible", (1, 0): "certain"})
                else:
                    self.assertEqual(words, {(0, 0): "certain", (1, 0): "impossible"})

    def test_evidence_of_certain_pairs(self):
        # If the lines 1 and 0 did not fit, the entry 1, which is trusted more, would lack a partner at the threshold 4.
        _, world, evidence = self.grade(CAR, EXAMPLE, ([3, 8], [5]), (1, 0))
        self.assertEqual(world, [(1, 0)])
        self.assertEqual((evidence[0], evidence[2]), ("entries", [1]))
        self.assertIn(evidence[1], range(4, 9))
        # Evidence at the exits: the entries may be open.
        log = (cars([0]), cars([6, 7]), "closed", 0)
        word, world, evidence = self.grade(CAR, log, ([1], [2, 9]), (0, 1))
        self.assertEqual((word, world, evidence[0], evidence[2]), ("certain", [(0, 1)], "exits", [1]))
        self.assertIn(evidence[1], range(3, 10))

    def test_impossible_pairs(self):
        # The lines do not fit.
        self.assertTrue(same(self.grade(CAR, CHAIN, ([5, 5], [5, 5]), (1, 0))[2], None))
        # They fit, but then the entry 1 would lack a partner.
        word, world, evidence = self.grade(CAR, CHAIN, ([5, 5], [5, 5]), (0, 1))
        self.assertEqual((word, world), ("impossible", [(0, 0), (1, 1)]))
        self.assertIn(evidence[0], GATES)
        # They fit, but the entry would be ignored with better reason.
        word, _, evidence = self.grade(CAR, EXAMPLE, ([3, 8], [5]), (0, 0))
        self.assertEqual((word, evidence[0], evidence[2]), ("impossible", "entries", [1]))
        log = (cars([0]), cars([6, 7]), "closed", 0)
        word, _, evidence = self.grade(CAR, log, ([1], [2, 9]), (0, 0))
        self.assertEqual((word, evidence[0], evidence[2]), ("impossible", "exits", [1]))

    def test_lines_that_fit_nothing(self):
        words = self.words(CAR, WITH_A_GHOST, ([5, 5, 5], [5, 5]))
        expected = {pair: "impossible" for pair in reference.all_pairs(WITH_A_GHOST)}
        self.assertEqual(words, {**expected, (0, 0): "certain", (1, 1): "certain"})
        self.check(sure_pairs, [(0, 0), (1, 1)], CAR, WITH_A_GHOST, ([5, 5, 5], [5, 5]))

    def test_sure_pairs_of_other_logs(self):
        self.check(sure_pairs, [(0, 0)], CAR, LOG, ([5, 5], [5, 5]))
        for floors in ((0, 0), ("closed", 7), ("closed", "closed")):
            self.check(sure_pairs, [], CAR, ([], [], *floors), ([], []))
        log = (cars([200, 0, 100]), cars([107, 7, 207]), 0, "closed")
        self.check(sure_pairs, [(0, 2), (1, 1), (2, 0)], CAR, log, ([1, 2, 3], [1, 2, 3]))
        # All that are trusted less are ignored in all best worlds, so that the pairs of the others are certain.
        log = (cars([0, 0, 50, 51]), cars([6, 57]), 0, "closed")
        self.check(sure_pairs, [(1, 0), (2, 1)], CAR, log, ([1, 2, 2, 1], [5, 5]))
        self.check(sure_pairs, [(2, 1)], CAR, log, ([2, 2, 2, 1], [5, 5]))
        self.check(sure_pairs, [], CAR, log, ([2, 2, 2, 2], [5, 5]))

    def test_equal_trusts_of_two_gates(self):
        # A line that is ignored at one gate does not make room for one of the other gate.
        log = (cars([0, 0, 50]), cars([6, 55, 55]), "closed", "closed")
        words = self.words(CAR, log, ([5, 5, 5], [5, 5, 5]))
        undecided = [pair for pair in words if words[pair] == "undecided"]
        self.assertEqual(undecided, [(0, 0), (1, 0), (2, 1), (2, 2)])
        self.check(sure_pairs, [], CAR, log, ([5, 5, 5], [5, 5, 5]))
        self.check(sure_pairs, [(1, 0), (2, 2)], CAR, log, ([5, 6, 5], [5, 5, 6]))

    def test_consistent_logs_have_the_words_of_verdicts(self):
        count = 0
        for kinds, log, trusts in with_trusts([*small_logs(200), *busy_logs(100)], 12):
            if reference.worlds(kinds, log):
                for pair, word in self.words(kinds, log, trusts).items():
                    self.assertEqual(word, verdict(kinds, log, *pair)[0])
                    count += 1
                self.assertEqual(sure_pairs(kinds, log, trusts), certain_pairs(kinds, log))
        self.assertGreater(count, 200)

    def test_trusts_of_lines_that_may_be_open(self):
        random = Random(71)
        for kinds, log, trusts in with_trusts([*small_logs(150), *crowded_logs(60)], 13):
            others = random_trusts(random, log)
            for place, gate in enumerate(GATES):
                for number in reference.musts(kinds, log, gate):
                    others[place][number] = trusts[place][number]
            self.assertEqual(sure_pairs(kinds, log, trusts), sure_pairs(kinds, log, others))
            for pair in reference.all_pairs(log):
                value = pair_grade(kinds, log, trusts, *pair)
                self.assertIs(is_pair_grade(kinds, log, others, *pair, value), True)

    def test_many_equal_lines(self):
        log = (cars([0] * 80), cars([7] * 40), "closed", "closed")
        trusts = ([9] * 30 + [5] * 30 + [2] * 20, [1] * 40)
        for number, word in ((0, "undecided"), (30, "undecided"), (60, "impossible")):
            self.assertEqual(self.grade(CAR, log, trusts, (number, 7))[0], word)
        self.check(sure_pairs, [], CAR, log, trusts)
        log = (cars([0] * 80), cars([7]), "closed", "closed")
        self.check(sure_pairs, [], CAR, log, ([5] * 80, [1]))
        for place in (0, 33, 79):
            trusts = ([5 if number == place else 4 for number in range(80)], [1])
            self.check(sure_pairs, [(place, 0)], CAR, log, trusts)

    def test_tight_log(self):
        entries, exits, *floors = tight_log()
        pairs = [(number, number) for number in range(80)]
        self.check(sure_pairs, pairs, SHORT, (entries, exits, *floors), ([5] * 80, [5] * 80))
        # With one exit less, the entry that is trusted least decides which way all others have to go.
        log = (entries, exits[1:], *floors)
        for place in (0, 1, 40, 79):
            trusts = ([2 if number == place else 3 for number in range(80)], [9] * 79)
            expected = [(number, number if number < place else number - 1) for number in range(80) if number != place]
            self.check(sure_pairs, expected, SHORT, log, trusts)
        self.check(sure_pairs, [], SHORT, log, ([5] * 80, [5] * 79))

    def test_large_logs(self):
        random = Random(72)
        words = []
        for kinds, log in large_logs(8):
            for lines in ((log[0], log[1]), (log[0][::2], log[1]), (log[0], log[1][20:])):
                changed = (*lines, *log[2:])
                trusts = random_trusts(random, changed)
                world = graded_repair(kinds, changed, trusts)[2]
                certain = self.result(sure_pairs, kinds, changed, trusts)
                self.assertLessEqual(set(certain), set(world))
                pairs = reference.all_pairs(changed)
                fitting = [pair for pair in pairs if reference.regarded_fit(kinds, changed, pair)]
                samples = [random.sample(chosen, min(8, len(chosen))) for chosen in (world, fitting, pairs)]
                for pair in [pair for sample in samples for pair in sample]:
                    word = self.grade(kinds, changed, trusts, pair)[0]
                    self.assertEqual(word == "certain", pair in certain)
                    words.append((word, pair in fitting))
        for kind in (("certain", True), ("undecided", True), ("impossible", True), ("impossible", False)):
            self.assertGreater(words.count(kind), 20)


class JudgeTest(Case):
    def judge(self, loose, pair, value):
        """True if the value is a grade of the pair, both for the judge and by the words of the document."""
        expected = loose.is_pair_grade(pair, value)
        self.check(is_pair_grade, expected, *loose.whole, *pair, value)
        return expected

    def all_values(self, random, loose, pair):
        """Some values that have the form of a grade of the pair, with parts of all kinds."""
        kinds, log, trusts = loose.whole
        worlds = [*loose.best[:4], *random.sample(loose.worlds, min(3, len(loose.worlds)))]
        lists = [reference.subsets(range(len(lines))) for lines in log[:2]]
        tuples = [pair_grade(kinds, log, trusts, *pair)[2]]
        for _ in range(12):
            gate = random.randrange(2)
            tuples.append((GATES[gate], random.randrange(1, 10), random.choice(lists[gate])))
        for word in ("certain", "undecided", "impossible"):
            for world in worlds:
                for evidence in [*tuples, *worlds, None, [], tuples[1][2]]:
                    yield word, world, evidence

    def test_values_for_small_logs(self):
        random = Random(73)
        right = wrong = 0
        for kinds, log, trusts in with_trusts([*small_logs(50), *crowded_logs(20)], 14):
            loose = Loose(kinds, log, trusts)
            for pair in reference.all_pairs(log):
                for value in self.all_values(random, loose, pair):
                    expected = loose.is_pair_grade(pair, value)
                    found = is_pair_grade(kinds, log, trusts, *pair, value)
                    self.assertIs(found, expected, (kinds, log, trusts, pair, value))
                    right += expected
                    wrong += not expected
        self.assertTrue(right > 500 and wrong > 5000)

    def test_a_right_value_for_another_pair(self):
        right = wrong = 0
        for kinds, log, trusts in with_trusts([*small_logs(60), *crowded_logs(30)], 15):
            loose = Loose(kinds, log, trusts)
            pairs = reference.all_pairs(log)
            for pair in pairs:
                value = pair_grade(kinds, log, trusts, *pair)
                for other in pairs:
                    expected = loose.is_pair_grade(other, value)
                    self.assertIs(is_pair_grade(kinds, log, trusts, *other, value), expected)
                    right += expected
                    wrong += not expected
        self.assertTrue(right > 200 and wrong > 200)

    def test_certain(self):
        loose = Loose(CAR, EXAMPLE, ([3, 8], [5]))
        world = [(1, 0)]
        for threshold in range(4, 9):
            self.assertTrue(self.judge(loose, (1, 0), ("certain", world, ("entries", threshold, [1]))))
        wrong = [("entries", threshold, [1]) for threshold in (1, 2, 3, 9, 10, 0, -1, True, None, "4", [4], 10 ** 5000)]
        lists = [[], [0], [0, 1], [1, 1], (1,), [True], [-1], [2], None, 1, [[1]]]
        wrong += [("entries", 4, numbers) for numbers in lists]
        wrong += [("exits", 4, [1]), ("exits", 4, [0]), ("exits", 6, []), ("both", 4, [1]), (None, 4, [1])]
        wrong += [(0, 4, [1]), ("entries", [1]), ("entries", 4, [1], None), ["entries", 4, [1]], ("entries", [1], 4)]
        wrong += [[1], [], None, (), (["entries"], 4, [1]), {"entries": [1]}, "entries", 4, ("entries",)]
        wrong += [(("entries", 4, [1]),)]
        for evidence in wrong:
            self.assertFalse(self.judge(loose, (1, 0), ("certain", world, evidence)))
        # At the low thresholds both entries together show it.
        loose = Loose(CAR, (cars([0, 50]), cars([6, 57]), 0, "closed"), ([3, 8], [5, 5]))
        self.assertTrue(self.judge(loose, (0, 0), ("certain", [(0, 0), (1, 1)], ("entries", 3, [0]))))
        self.assertTrue(self.judge(loose, (0, 0), ("certain", [(0, 0), (1, 1)], ("entries", 1, [0, 1]))))
        self.assertFalse(self.judge(loose, (0, 0), ("certain", [(0, 0), (1, 1)], ("entries", 4, [0]))))

    def test_undecided(self):
        loose = Loose(CAR, EXAMPLE, ([4, 4], [5]))
        first, second = [(0, 0)], [(1, 0)]
        self.assertTrue(self.judge(loose, (0, 0), ("undecided", first, second)))
        self.assertTrue(self.judge(loose, (1, 0), ("undecided", second, first)))
        for worlds in ((second, first), (first, first), (second, second), (first, []), ([], second), (first, None)):
            self.assertFalse(self.judge(loose, (0, 0), ("undecided", *worlds)))
        wrong = [("undecided", first), ("undecided", first, second, second), ["undecided", first, second]]
        wrong += [(first, second)]
        for value in wrong:
            self.assertFalse(self.judge(loose, (0, 0), value))
        # Of two worlds with and without a pair, both have to be best.
        loose = Loose(CAR, EXAMPLE, ([3, 8], [5]))
        for worlds in ((first, second), (second, first), (second, []), ([], second)):
            for pair in ((0, 0), (1, 0)):
                self.assertFalse(self.judge(loose, pair, ("undecided", *worlds)))

    def test_impossible_and_not_fitting(self):
        loose = Loose(CAR, CHAIN, ([5, 5], [5, 5]))
        world = [(0, 0), (1, 1)]
        self.assertTrue(self.judge(loose, (1, 0), ("impossible", world, None)))
        wrong = list(product(GATES, (1, 5, 6), ([], [0], [1], [0, 1])))
        for evidence in [*wrong, [], (), 0, False, world, "None"]:
            self.assertFalse(self.judge(loose, (1, 0), ("impossible", world, evidence)))
        for other in ([(0, 0)], [(0, 1)], [], None, [(1, 1), (0, 0)]):
            self.assertFalse(self.judge(loose, (1, 0), ("impossible", other, None)))

    def test_impossible_though_fitting(self):
        loose = Loose(CAR, CHAIN, ([5, 4], [3, 5]))
        world = [(0, 0), (1, 1)]
        right = [("entries", threshold, [1]) for threshold in range(1, 5)]
        right += [("exits", threshold, [0]) for threshold in range(1, 4)]
        for evidence in right:
            self.assertTrue(self.judge(loose, (0, 1), ("impossible", world, evidence)))
        wrong = [None, ("entries", 5, [1]), ("exits", 4, [0]), ("entries", 1, [0]), ("entries", 1, [0, 1])]
        wrong += [("exits", 1, [1]), ("exits", 1, [0, 1]), ("entries", 1, []), ("exits", 1, []), ("entries", 0, [1])]
        wrong += [("entries", True, [1]), ["entries", 1, [1]], ("entries", 1, (1,)), ("entries", 1, [1, 1])]
        wrong += [("entries", 1, [True]), [1], ()]
        for evidence in wrong:
            self.assertFalse(self.judge(loose, (0, 1), ("impossible", world, evidence)))
        # What is lacking anyway is no evidence.
        loose = Loose(CAR, WITH_A_GHOST, ([5, 5, 5], [5, 5]))
        self.assertFalse(self.judge(loose, (0, 1), ("impossible", world, ("entries", 1, [2]))))
        self.assertTrue(self.judge(loose, (0, 1), ("impossible", world, ("entries", 1, [1, 2]))))
        self.assertFalse(self.judge(loose, (0, 1), ("impossible", world, ("entries", 1, [1]))))
        self.assertTrue(self.judge(loose, (0, 1), ("impossible", world, ("exits", 1, [0]))))

    def test_other_words(self):
        words = ["certain", "undecided", "impossible", "paired", "open", "Certain", "", None, 0, True, ["certain"]]
        words += [b"certain"]
        cases = [(EXAMPLE, ([3, 8], [5])), (EXAMPLE, ([4, 4], [5])), (CHAIN, ([5, 5], [5, 5]))]
        for log, trusts in cases:
            loose = Loose(CAR, log, trusts)
            for pair in reference.all_pairs(log):
                value = pair_grade(CAR, log, trusts, *pair)
                for word in words:
                    self.judge(loose, pair, (word, *value[1:]))
                for changed in (value[::-1], value[:2], value[1:], (*value, None), list(value), (value,), [value], ()):
                    self.assertFalse(self.judge(loose, pair, changed))

    def test_other_values(self):
        for log in (LOG, EXAMPLE, CHAIN, *WITHOUT_WORLD):
            trusts = tuple([5] * len(lines) for lines in log[:2])
            for pair in reference.all_pairs(log):
                self.check_values(is_pair_grade, False, ODD, CAR, log, trusts, *pair)

    def test_values_that_are_wrong_in_one_part(self):
        cases = [(EXAMPLE, ([3, 8], [5])), (EXAMPLE, ([4, 4], [5])), (CHAIN, ([5, 4], [3, 5])), (LOG, ([5, 5], [5, 5]))]
        for log, trusts in cases:
            loose = Loose(CAR, log, trusts)
            for pair in reference.all_pairs(log):
                for value in spoilt(pair_grade(CAR, log, trusts, *pair)):
                    self.judge(loose, pair, value)


class InterfaceTest(unittest.TestCase):
    def test_arguments_by_name(self):
        named = {"exit_number": 0, "entry_number": 1, "trusts": ([3, 8], [5]), "log": EXAMPLE, "kinds": CAR}
        found = pair_grade(**named)
        self.assertEqual(found[0], "certain")
        self.assertIs(is_pair_grade(value=found, **named), True)
        self.assertEqual(sure_pairs(trusts=([3, 8], [5]), log=EXAMPLE, kinds=CAR), [(1, 0)])

    def test_functions_are_defined_in_this_file(self):
        for function in (pair_grade, is_pair_grade, sure_pairs):
            self.assertEqual(function.__module__, "gatepairs.pairgrades")


if __name__ == "__main__":
    unittest.main()
