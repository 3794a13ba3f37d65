import unittest
from random import Random

from gatepairs.graded import graded_repair, is_best_world
from gatepairs.linegrades import is_line_grade, line_grade
from gatepairs.verdicts import line_verdict
from tests import reference
from tests.case import Case
from tests.loose import THRESHOLDS, Loose, crowded_logs, random_trusts, with_trusts
from tests.samples import (
    CAR,
    GATES,
    LOG,
    ODD,
    SHORT,
    WITHOUT_WORLD,
    busy_logs,
    cars,
    large_logs,
    same,
    small_logs,
    spoilt,
    tight_log,
)

EXAMPLE = (cars([0, 1]), cars([6]), 0, "closed")
# The entry 2 may be open. It fits the exits 1 and 2, which have to be paired, and the entry 3 fits only these, too.
TWO_OF_FOUR = (cars([0, 0, 20, 19]), cars([6, 26, 26]), "closed", 30)


class LineCase(Case):
    def grade(self, kinds, log, trusts, gate, number):
        """A grade of the line, which the judge accepts."""
        found = self.result(line_grade, kinds, log, trusts, gate, number)
        self.check(is_line_grade, True, kinds, log, trusts, gate, number, found)
        return found

    def words(self, log, trusts):
        """The words of the grades of all lines, entries first."""
        return [
            [self.grade(CAR, log, trusts, gate, number)[0] for number in range(len(log[place]))]
            for place, gate in enumerate(GATES)
        ]


class GradeTest(LineCase):
    def test_example(self):
        trusts = ([3, 8], [5])
        self.check(line_grade, ("ignored", [(1, 0)], [0, 1]), CAR, EXAMPLE, trusts, "entries", 0)
        self.check(line_grade, ("paired", [(1, 0)], []), CAR, EXAMPLE, trusts, "entries", 1)
        self.assertEqual(self.grade(CAR, EXAMPLE, ([4, 4], [5]), "entries", 0)[0], "either")

    def test_small_logs(self):
        found = []
        for kinds, log, trusts in with_trusts([*small_logs(400), *busy_logs(100), *crowded_logs(500)], 6):
            loose = Loose(kinds, log, trusts)
            for place, gate in enumerate(GATES):
                for number in range(len(log[place])):
                    value = self.grade(kinds, log, trusts, gate, number)
                    self.assertTrue(loose.is_line_grade(gate, number, value), (kinds, log, trusts, gate, number, value))
                    is_must = number in loose.musts[gate]
                    found.append((gate, value[0], is_must))
                    # The evidence of some paired must lines is more than the empty list.
                    if value[0] == "paired" and is_must and value[2]:
                        found.append((gate, "shortage"))
                    if value[0] == "ignored" and len(value[2]) > 1:
                        found.append((gate, "rivals"))
        for gate in GATES:
            for kind in (("paired", True), ("paired", False), ("ignored", True), ("either", True), ("open", False)):
                self.assertGreater(found.count((gate, *kind)), 40, (gate, kind))
            self.assertGreater(found.count((gate, "shortage")), 40)
            self.assertGreater(found.count((gate, "rivals")), 40)

    def test_each_word(self):
        for first in THRESHOLDS:
            for second in THRESHOLDS:
                words = self.words(EXAMPLE, ([first, second], [5]))
                if first == second:
                    self.assertEqual(words, [["either", "either"], ["paired"]])
                else:
                    self.assertEqual(sorted(words[0]), ["ignored", "paired"])
                    self.assertEqual(words[0].index("ignored"), 0 if first < second else 1)
        self.assertEqual(self.words(LOG, ([5, 5], [5, 5])), [["paired", "open"], ["paired", "open"]])

    def test_at_the_exits(self):
        log = (cars([0, 30]), cars([6, 7, 8, 36]), "closed", "closed")
        self.assertEqual(self.words(log, ([1, 1], [3, 3, 3, 3])), [["paired"] * 2, ["either"] * 3 + ["paired"]])
        words = ["ignored", "paired", "ignored", "paired"]
        self.assertEqual(self.words(log, ([1, 1], [3, 4, 3, 1])), [["paired"] * 2, words])
        words = ["ignored", "either", "either", "paired"]
        self.assertEqual(self.words(log, ([1, 1], [3, 4, 4, 9])), [["paired"] * 2, words])

    def test_must_line_of_the_greatest_trust_that_is_ignored(self):
        log = (cars([0]), [], 0, "closed")
        self.check(line_grade, ("ignored", [], [0]), CAR, log, ([9], []), "entries", 0)
        log = ([], cars([0, 7, 90]), 0, "closed")
        value = self.grade(CAR, log, ([], [9, 9, 9]), "exits", 0)
        self.check(line_grade, ("ignored", [], [0]), CAR, log, ([], [9, 9, 9]), "exits", 0)
        self.assertEqual(value, ("ignored", [], [0]))
        # Two lines of trust 9 for one partner: neither of them is ignored in all best worlds.
        self.assertEqual(self.words(EXAMPLE, ([9, 9], [9])), [["either", "either"], ["paired"]])

    def test_lines_that_may_be_open(self):
        # The entry 2 may be open, but the exits 1 and 2 need two partners, and there is only one more.
        trusts = ([5, 5, 9, 5], [5, 5, 5])
        word, world, evidence = self.grade(CAR, TWO_OF_FOUR, trusts, "entries", 2)
        self.assertEqual((word, evidence[:2]), ("paired", ("exits", 1)))
        self.assertEqual(evidence[2], [1, 2])
        self.assertIn(2, [pair[0] for pair in world])
        log = (TWO_OF_FOUR[0], TWO_OF_FOUR[1][:2], *TWO_OF_FOUR[2:])
        self.assertEqual(self.grade(CAR, log, (trusts[0], [5, 5]), "entries", 2), ("open", [(0, 0), (3, 1)]))
        # An exit that may be open and is needed.
        log = (cars([0]), cars([7]), 0, "closed")
        self.check(line_grade, ("paired", [(0, 0)], ("entries", 1, [0])), CAR, log, ([1], [9]), "exits", 0)
        self.check(line_grade, ("paired", [(0, 0)], []), CAR, log, ([1], [9]), "entries", 0)
        # An exit that may be open, where the entries lack partners all the same.
        log = (cars([0, 0]), cars([7]), 0, "closed")
        word, _, evidence = self.grade(CAR, log, ([3, 6], [9]), "exits", 0)
        self.assertEqual([word, evidence[0]], ["paired", "entries"])
        self.assertEqual(self.grade(CAR, (log[0], cars([7, 30]), 0, "closed"), ([3, 6], [9, 1]), "exits", 1)[0], "open")

    def test_needed_at_one_threshold_only(self):
        # The exit 1 may be open. Without it the lack at low thresholds stays, but an entry of trust 8 lacks a partner.
        log = (cars([0, 20, 60]), cars([6, 27]), 15, "closed")
        trusts = ([3, 8, 8], [5, 5])
        word, _, evidence = self.grade(CAR, log, trusts, "exits", 1)
        self.assertEqual([word, evidence[0]], ["paired", "entries"])
        log = (cars([0, 1]), cars([6, 7]), 0, "closed")
        self.assertEqual(self.words(log, ([3, 8], [5, 5])), [["paired"] * 2, ["paired"] * 2])

    def test_trusts_of_lines_that_may_be_open(self):
        random = Random(68)
        for kinds, log, trusts in with_trusts([*small_logs(150), *crowded_logs(100)], 7):
            others = random_trusts(random, log)
            for place, gate in enumerate(GATES):
                for number in reference.musts(kinds, log, gate):
                    others[place][number] = trusts[place][number]
            for place, gate in enumerate(GATES):
                for number in range(len(log[place])):
                    first = self.result(line_grade, kinds, log, trusts, gate, number)
                    self.assertEqual(first[0], line_grade(kinds, log, others, gate, number)[0])
                    self.assertIs(is_line_grade(kinds, log, others, gate, number, first), True)

    def test_consistent_logs_have_the_words_of_verdicts(self):
        count = 0
        for kinds, log, trusts in with_trusts([*small_logs(200), *busy_logs(100)], 8):
            if reference.worlds(kinds, log):
                for place, gate in enumerate(GATES):
                    for number in range(len(log[place])):
                        value = self.grade(kinds, log, trusts, gate, number)
                        self.assertEqual(value[0], line_verdict(kinds, log, gate, number)[0])
                        count += 1
        self.assertGreater(count, 200)

    def test_many_equal_lines(self):
        log = (cars([0] * 80), cars([7] * 40), "closed", "closed")
        trusts = ([9] * 30 + [5] * 30 + [2] * 20, [1] * 40)
        words = ["paired"] * 30 + ["either"] * 30 + ["ignored"] * 20
        for number, word in list(enumerate(words))[::7]:
            self.assertEqual(self.grade(CAR, log, trusts, "entries", number)[0], word)
        self.assertEqual(self.grade(CAR, log, trusts, "exits", 7)[0], "paired")

    def test_tight_log(self):
        entries, exits, *floors = tight_log()
        log = (entries, exits[1:], *floors)
        for place in (0, 1, 40, 79):
            trusts = ([2 if number == place else 3 for number in range(80)], [9] * 79)
            for number in (0, 1, 39, 40, 41, 78, 79):
                word = self.grade(SHORT, log, trusts, "entries", number)[0]
                self.assertEqual(word, "ignored" if number == place else "paired")
        trusts = ([3 if number % 2 else 4 for number in range(80)], [9] * 79)
        words = [self.grade(SHORT, log, trusts, "entries", number)[0] for number in range(80)]
        self.assertEqual(words, ["paired", "either"] * 40)

    def test_large_logs(self):
        random = Random(69)
        words = []
        for kinds, log in large_logs(10):
            for lines in ((log[0], log[1]), (log[0][::2], log[1]), (log[0], log[1][20:])):
                changed = (*lines, *log[2:])
                trusts = random_trusts(random, changed)
                world = graded_repair(kinds, changed, trusts)[2]
                for place, gate in enumerate(GATES):
                    for number in random.sample(range(len(lines[place])), 8):
                        value = self.grade(kinds, changed, trusts, gate, number)
                        words.append(value[0])
                        is_paired = number in [pair[place] for pair in world]
                        self.assertNotEqual(value[0], "ignored" if is_paired else "paired")
        for word in ("paired", "ignored", "either", "open"):
            self.assertGreater(words.count(word), 5)


class JudgeTest(Case):
    def judge(self, loose, gate, number, value):
        """True if the value is a grade of the line, both for the judge and by the words of the document."""
        expected = loose.is_line_grade(gate, number, value)
        self.check(is_line_grade, expected, *loose.whole, gate, number, value)
        return expected

    def all_values(self, random, loose, place, number):
        """Some values that have the form of a grade of the line, with parts of all kinds."""
        gate = GATES[place]
        kinds, log, trusts = loose.whole
        worlds = [*loose.best[:4], *random.sample(loose.worlds, min(3, len(loose.worlds)))]
        lists = [reference.subsets(range(len(lines))) for lines in log[:2]]
        own = random.sample(lists[place], min(6, len(lists[place])))
        own.append(line_grade(kinds, log, trusts, gate, number)[-1])
        tuples = []
        for _ in range(8):
            other = random.randrange(2)
            tuples.append((GATES[other], random.randrange(1, 10), random.choice(lists[other])))
        for word in ("paired", "ignored", "either", "open"):
            for world in worlds:
                yield word, world
                for evidence in [*own, *tuples, *worlds, None]:
                    yield word, world, evidence

    def test_values_for_small_logs(self):
        random = Random(70)
        right = wrong = 0
        for kinds, log, trusts in with_trusts([*small_logs(40), *crowded_logs(25)], 9):
            loose = Loose(kinds, log, trusts)
            for place, gate in enumerate(GATES):
                for number in range(len(log[place])):
                    for value in self.all_values(random, loose, place, number):
                        expected = loose.is_line_grade(gate, number, value)
                        found = is_line_grade(kinds, log, trusts, gate, number, value)
                        self.assertIs(found, expected, (kinds, log, trusts, gate, number, value))
                        right += expected
                        wrong += not expected
        self.assertTrue(right > 500 and wrong > 5000)

    def test_a_right_value_for_another_line(self):
        same_word = other_word = 0
        for kinds, log, trusts in with_trusts([*small_logs(100), *crowded_logs(100)], 10):
            loose = Loose(kinds, log, trusts)
            lines = [(gate, number) for place, gate in enumerate(GATES) for number in range(len(log[place]))]
            for gate, number in lines:
                value = line_grade(kinds, log, trusts, gate, number)
                for other in lines:
                    expected = loose.is_line_grade(*other, value)
                    self.assertIs(is_line_grade(kinds, log, trusts, *other, value), expected)
                    same_word += expected
                    other_word += not expected
        self.assertTrue(same_word > 300 and other_word > 300)

    def test_paired_must_line(self):
        # The entries 0 and 1 fit the exit 0 only, and the entry 2 the exit 1 only.
        loose = Loose(CAR, (cars([0, 1, 50]), cars([6, 57]), 0, "closed"), ([3, 3, 3], [5, 5]))
        world = [(0, 0), (2, 1)]
        self.assertTrue(self.judge(loose, "entries", 2, ("paired", world, [0, 1])))
        wrong = [[], [0], [1], [0, 1, 2], [1, 0], [0, 2], [0, 0, 1], (0, 1), [False, 1], [0, True], None, 1, [[0, 1]]]
        for evidence in wrong:
            self.assertFalse(self.judge(loose, "entries", 2, ("paired", world, evidence)))
        for threshold in range(11):
            self.assertFalse(self.judge(loose, "entries", 2, ("paired", world, ("entries", threshold, [0, 1]))))
        for evidence in ([0, 1], [1], [0], []):
            self.assertFalse(self.judge(loose, "entries", 0, ("paired", world, evidence)))
        # Lines of a smaller trust do not count at the threshold of the line.
        loose = Loose(CAR, (cars([0, 1, 50]), cars([6, 57]), 0, "closed"), ([3, 2, 3], [5, 5]))
        self.assertTrue(self.judge(loose, "entries", 2, ("paired", world, [])))
        self.assertTrue(self.judge(loose, "entries", 2, ("paired", world, [0])))
        self.assertTrue(self.judge(loose, "entries", 0, ("paired", world, [])))
        self.assertFalse(self.judge(loose, "entries", 0, ("paired", world, [0])))
        self.assertTrue(self.judge(loose, "entries", 0, ("paired", world, [2])))
        for evidence in ([0, 1], [1]):
            self.assertFalse(self.judge(loose, "entries", 2, ("paired", world, evidence)))

    def test_ignored_line(self):
        loose = Loose(CAR, (cars([0, 1, 50]), cars([6, 57]), 0, "closed"), ([3, 8, 2], [5, 5]))
        world = [(1, 0), (2, 1)]
        self.assertTrue(self.judge(loose, "entries", 0, ("ignored", world, [0, 1])))
        # Lines of a smaller trust may not stand in the list, nor may the line be left out.
        wrong = [[0, 1, 2], [1], [0], [], [1, 0], [0, 1, 1], (0, 1), [False, 1], [0, True], None, [0, 2], [-1, 0, 1]]
        for evidence in wrong:
            self.assertFalse(self.judge(loose, "entries", 0, ("ignored", world, evidence)))
        self.assertFalse(self.judge(loose, "entries", 1, ("ignored", world, [0, 1])))
        self.assertFalse(self.judge(loose, "entries", 2, ("ignored", world, [0, 1])))
        # Nor may other lines of the same trust.
        loose = Loose(CAR, (cars([0, 1, 2]), cars([7]), 0, "closed"), ([3, 3, 8], [5]))
        self.assertTrue(self.judge(loose, "entries", 0, ("ignored", [(2, 0)], [0, 2])))
        self.assertFalse(self.judge(loose, "entries", 0, ("ignored", [(2, 0)], [0, 1, 2])))
        self.assertFalse(self.judge(loose, "entries", 0, ("ignored", [(2, 0)], [0, 1])))
        # The size has to be greater than the lack at the next threshold.
        loose = Loose(CAR, (cars([0, 1, 2, 2]), cars([7]), 0, "closed"), ([3, 8, 8, 9], [5]))
        self.assertTrue(self.judge(loose, "entries", 0, ("ignored", [(3, 0)], [0, 1, 2, 3])))
        for evidence in ([0, 1, 2], [0, 1], [0, 3], [1, 2, 3]):
            self.assertFalse(self.judge(loose, "entries", 0, ("ignored", [(3, 0)], evidence)))
        self.assertTrue(self.judge(loose, "entries", 1, ("ignored", [(3, 0)], [1, 3])))

    def test_ignored_line_of_the_greatest_trust(self):
        loose = Loose(CAR, (cars([0, 50]), cars([57]), 0, "closed"), ([9, 9], [5]))
        self.assertTrue(self.judge(loose, "entries", 0, ("ignored", [(1, 0)], [0])))
        for evidence in ([0, 1], [], [1], [-1], [2], None):
            self.assertFalse(self.judge(loose, "entries", 0, ("ignored", [(1, 0)], evidence)))

    def test_either(self):
        loose = Loose(CAR, EXAMPLE, ([4, 4], [5]))
        first, second = [(0, 0)], [(1, 0)]
        self.assertTrue(self.judge(loose, "entries", 0, ("either", first, second)))
        self.assertTrue(self.judge(loose, "entries", 1, ("either", second, first)))
        for worlds in ((second, first), (first, first), (second, second), (first, []), ([], second), (first, None)):
            self.assertFalse(self.judge(loose, "entries", 0, ("either", *worlds)))
        wrong = [("either", first), ("either", first, second, second), ["either", first, second]]
        for value in wrong:
            self.assertFalse(self.judge(loose, "entries", 0, value))
        self.assertFalse(self.judge(loose, "exits", 0, ("either", first, second)))
        self.assertFalse(self.judge(loose, "exits", 0, ("either", first, [])))
        # A line that may be open is not ignored, even if it is in one world only.
        loose = Loose(CAR, LOG, ([5, 5], [5, 5]))
        self.assertFalse(self.judge(loose, "entries", 1, ("either", [(0, 0), (1, 1)], [(0, 0)])))
        self.assertTrue(self.judge(loose, "entries", 1, ("open", [(0, 0)])))

    def test_open(self):
        loose = Loose(CAR, LOG, ([5, 5], [5, 5]))
        for gate in GATES:
            self.assertTrue(self.judge(loose, gate, 1, ("open", [(0, 0)])))
            wrong = [[(0, 0), (1, 1)], [], [(1, 1)], [(1, 0)], None, [[0, 0]], ((0, 0),), [(False, 0)]]
            wrong += [[(0, 0), (0, 0)]]
            for world in wrong:
                self.assertFalse(self.judge(loose, gate, 1, ("open", world)))
            for value in (("open", [(0, 0)], None), ("open",), ["open", [(0, 0)]], ("open", [(0, 0)], [(0, 0)])):
                self.assertFalse(self.judge(loose, gate, 1, value))
        self.assertFalse(self.judge(loose, "exits", 0, ("open", [(0, 0)])))
        # An ignored line is not open.
        loose = Loose(CAR, EXAMPLE, ([3, 8], [5]))
        self.assertFalse(self.judge(loose, "entries", 0, ("open", [(1, 0)])))

    def test_paired_line_that_may_be_open(self):
        loose = Loose(CAR, TWO_OF_FOUR, ([5, 5, 9, 5], [3, 4, 5]))
        world = [(0, 0), (2, 1), (3, 2)]
        rights = [("exits", threshold, [1, 2]) for threshold in range(1, 5)]
        for evidence in rights:
            self.assertTrue(self.judge(loose, "entries", 2, ("paired", world, evidence)))
        wrong = [("exits", threshold, [1, 2]) for threshold in (0, 5, 6, 9, 10, -1, True, None, "1", [1], 10 ** 5000)]
        lists = [[], [1], [2], [0, 1], [2, 1], [1, 1, 2], (1, 2), [1, 2, 3], None]
        wrong += [("exits", 1, numbers) for numbers in lists]
        wrong += [("entries", 1, [1, 2]), ("entries", 1, [0, 1]), ("entries", 1, []), ("both", 1, [1, 2])]
        wrong += [(None, 1, [1, 2]), ("exits", 1, [True, 2]), ("exits", 1, [-1, 1, 2]), (0, 1, [1, 2])]
        wrong += [(["exits"], 1, [1, 2]), ("exits", [1, 2]), ("exits", 1, [1, 2], None), ["exits", 1, [1, 2]]]
        wrong += [("exits", [1, 2], 1), [1, 2], [], None, ("exits", 1, [[1, 2]]), {"exits": [1, 2]}, ("exits",), ()]
        wrong += ["exits", 1]
        for evidence in wrong:
            self.assertFalse(self.judge(loose, "entries", 2, ("paired", world, evidence)))
        # The list may hold the exit 0, too: two entries fit it, so it makes the size smaller.
        self.assertFalse(self.judge(loose, "entries", 2, ("paired", world, ("exits", 1, [0, 1, 2]))))
        for wrong_world in ([(0, 0), (2, 1)], [(0, 0), (3, 1)], [], None, [(0, 0), (2, 1), (3, 1)]):
            self.assertFalse(self.judge(loose, "entries", 2, ("paired", wrong_world, rights[0])))

    def test_other_words(self):
        loose = Loose(CAR, EXAMPLE, ([3, 8], [5]))
        rights = [("entries", 0), ("entries", 1), ("exits", 0)]
        words = ["paired", "ignored", "either", "open", "certain", "undecided", "impossible", "Paired", "", None, 0]
        words += [True]
        for gate, number in rights:
            value = line_grade(*loose.whole, gate, number)
            for word in [*words, ["paired"], ("paired",), "paired ", b"paired"]:
                self.judge(loose, gate, number, (word, *value[1:]))
            others = [value[::-1], value[:2], value[:1], (*value, None), (*value, value[-1]), list(value), (value,)]
            for changed in others:
                self.assertFalse(self.judge(loose, gate, number, changed))

    def test_other_values(self):
        for log in (LOG, EXAMPLE, *WITHOUT_WORLD):
            trusts = tuple([5] * len(lines) for lines in log[:2])
            for place, gate in enumerate(GATES):
                for number in range(len(log[place])):
                    self.check_values(is_line_grade, False, ODD, CAR, log, trusts, gate, number)

    def test_values_that_are_wrong_in_one_part(self):
        cases = [(EXAMPLE, ([3, 8], [5])), (EXAMPLE, ([4, 4], [5])), (LOG, ([5, 5], [5, 5]))]
        cases += [((cars([0]), cars([7]), 0, "closed"), ([1], [9])), (WITHOUT_WORLD[3], ([9], [2, 1]))]
        for log, trusts in cases:
            loose = Loose(CAR, log, trusts)
            for place, gate in enumerate(GATES):
                for number in range(len(log[place])):
                    for value in spoilt(line_grade(CAR, log, trusts, gate, number)):
                        self.judge(loose, gate, number, value)

    def test_worlds_that_are_not_best(self):
        loose = Loose(CAR, EXAMPLE, ([3, 8], [5]))
        for world in ([(0, 0)], []):
            self.assertIs(is_best_world(*loose.whole, world), False)
            self.assertFalse(self.judge(loose, "entries", 0, ("ignored", world, [0, 1])))
            self.assertFalse(self.judge(loose, "entries", 0, ("either", world, [(1, 0)])))
            self.assertFalse(self.judge(loose, "entries", 0, ("either", [(1, 0)], world)))
            self.assertFalse(self.judge(loose, "entries", 1, ("paired", world, [])))


class InterfaceTest(unittest.TestCase):
    def test_arguments_by_name(self):
        found = line_grade(number=0, gate="entries", trusts=([3, 8], [5]), log=EXAMPLE, kinds=CAR)
        self.assertTrue(same(found, ("ignored", [(1, 0)], [0, 1])))
        named = {"value": found, "number": 0, "gate": "entries", "trusts": ([3, 8], [5]), "log": EXAMPLE, "kinds": CAR}
        self.assertIs(is_line_grade(**named), True)

    def test_functions_are_defined_in_this_file(self):
        for function in (line_grade, is_line_grade):
            self.assertEqual(function.__module__, "gatepairs.linegrades")


if __name__ == "__main__":
    unittest.main()
