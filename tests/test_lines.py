import unittest

from gatepairs.lines import fits, is_kinds, is_line, is_log, may_be_open, must_lines
from tests import reference
from tests.case import Case
from tests.samples import CAR, DEEP, GAP, GATES, LOG, ODD, same, small_logs, spoilt

NO_NAMES = ["", "abcdefghi", "Car", "CAR", "car1", "c r", " car", "car\n", "c-r", "c_r", "c\u00e4r", "\u0430"]
NO_PLATES = ["", "ABCDEFGHI", "123456789", "ab12", "AB 1", "AB12\n", "AB-1", "A_1", "\u00c4B", "\u0661", "\u00b2"]


class KindsTest(Case):
    def test_kinds_tables(self):
        tables = [CAR, GAP, {"a": (0, 0)}, {"abcdefgh": (0, 10 ** 6)}, {"z": (10 ** 6, 10 ** 6)}, {"closed": (1, 2)}]
        self.check_values(is_kinds, True, tables)

    def test_one_to_eight_kinds(self):
        for many in range(12):
            table = {name: (5, 10) for name in "abcdefghijkl"[:many]}
            self.check(is_kinds, 1 <= many <= 8, table)

    def test_names(self):
        self.check_values(is_kinds, True, [{name: (5, 10)} for name in ("a", "z", "abcdefgh", "none", "az")])
        self.check_values(is_kinds, False, [{name: (5, 10)} for name in NO_NAMES])
        for name in (0, 1, True, None, (), ("car",), ("c", "a", "r")):
            self.check(is_kinds, False, {name: (5, 10)})
            self.check(is_kinds, False, {"car": (5, 10), name: (5, 10)})

    def test_names_with_one_wrong_sign(self):
        for sign in map(chr, range(256)):
            for name in (sign, "ca" + sign, sign + "car"):
                self.check(is_kinds, sign in "abcdefghijklmnopqrstuvwxyz", {name: (5, 10)})

    def test_travel_times(self):
        right = [(0, 0), (0, 1), (5, 5), (0, 10 ** 6), (10 ** 6, 10 ** 6), (10 ** 6 - 1, 10 ** 6)]
        wrong = [(1, 0), (10, 5), (-1, 5), (-2, -1), (0, 10 ** 6 + 1), (10 ** 6 + 1, 10 ** 6 + 1)]
        wrong += [(10 ** 6, 10 ** 6 - 1), (False, 5), (0, True), (False, True), (True, True), [5, 10], (5,), ()]
        wrong += [(5, 10, 10), (5, 10, None), (None, 10), (5, None), ("5", "10"), ((5, 10),), ([5], [10]), (5, [10])]
        wrong += [{5: 10}, {0: 5, 1: 10}, 5, None]
        self.check_values(is_kinds, True, [{"car": travel} for travel in right])
        for travel in wrong:
            self.check(is_kinds, False, {"car": travel})
            self.check(is_kinds, False, {"bus": (5, 10), "car": travel})
            self.check(is_kinds, False, {"car": travel, "bus": (5, 10)})

    def test_other_values(self):
        self.check_values(is_kinds, False, ODD)
        self.check_values(is_kinds, False, [{"car": value} for value in ODD if not same(value, (0, 0))])
        self.check_values(is_kinds, False, [[("car", (5, 10))], (("car", (5, 10)),), ["car"], "car"])


class LineTest(Case):
    def test_lines(self):
        lines = [(0, "car", None), (10 ** 9, "car", "A"), (5, None, None)]
        lines += [(7, None, "ABCDEFGH"), (1, "car", "01234567")]
        self.check_values(is_line, True, lines, CAR)

    def test_times(self):
        right = [0, 1, 10 ** 9 - 1, 10 ** 9]
        wrong = [-1, 10 ** 9 + 1, -(10 ** 9), 10 ** 5000, True, False, None, "0", "closed", (), [0], (0,), {}]
        self.check_values(is_line, True, [(time, "car", None) for time in right], CAR)
        self.check_values(is_line, False, [(time, "car", None) for time in wrong], CAR)

    def test_kinds(self):
        self.check_values(is_line, True, [(0, name, "A1") for name in ("van", "bike", None)], GAP)
        wrong = ["car", "", "VAN", "va", "vans", "-", 0, True, False, (), ("van",), ["van"], [], {}, {"van": 1}, *DEEP]
        self.check_values(is_line, False, [(0, name, "A1") for name in wrong], GAP)

    def test_plates(self):
        right = [None, "A", "Z", "0", "9", "AZ09", "ABCDEFGH", "00000000"]
        wrong = [0, 1, True, False, (), ("A",), [], ["A"], {}, *DEEP]
        self.check_values(is_line, True, [(0, "car", plate) for plate in right], CAR)
        self.check_values(is_line, False, [(0, "car", plate) for plate in [*NO_PLATES, *wrong]], CAR)

    def test_plates_with_one_wrong_sign(self):
        for sign in map(chr, range(256)):
            for plate in (sign, "AB" + sign, sign + "12"):
                self.check(is_line, sign in "ABCDEFGHIJKLMNOPQRSTUVWXYZ0123456789", CAR, (0, None, plate))

    def test_forms(self):
        wrong = [[0, "car", None], (0, "car"), (0,), (), (0, "car", None, None), ((0, "car", None),), {0: "car"}]
        self.check_values(is_line, False, wrong, CAR)

    def test_other_values(self):
        self.check_values(is_line, False, ODD, CAR)


class LogTest(Case):
    def test_example(self):
        self.check(is_log, True, CAR, ([(0, "car", None)], [(7, None, "AB12")], 0, "closed"))

    def test_logs(self):
        line = (7, "car", None)
        logs = [LOG, ([], [], 0, 0), ([], [], "closed", "closed"), ([], [], 0, "closed")]
        logs += [([line], [], 10 ** 9, 0), ([line, line], [line], 0, 10 ** 9)]
        logs += [([(9, None, "A"), (0, None, "A")], [(10 ** 9, "car", "A"), (0, "car", "A")], 5, 6)]
        self.check_values(is_log, True, logs, CAR)

    def test_floors(self):
        for floor in (0, 1, 10 ** 9 - 1, 10 ** 9, "closed"):
            self.check(is_log, True, CAR, ([], [], floor, 0))
            self.check(is_log, True, CAR, ([], [], 0, floor))
        wrong = [-1, 10 ** 9 + 1, 10 ** 5000, True, False, None, "", "open", "Closed", "0", [], ["closed"], (), {}]
        for floor in [*wrong, *DEEP]:
            self.check(is_log, False, CAR, ([], [], floor, 0))
            self.check(is_log, False, CAR, ([], [], 0, floor))

    def test_lists_of_lines(self):
        line = (7, "car", None)
        wrong = [(), (line,), line, None, 0, "closed", {}, {0: line}, [[7, "car", None]], [line, None], [None, line]]
        wrong += [[line, (7, "bus", None)], [(True, "car", None), line], [line, line, (7, "car", "a")], [[line]], *DEEP]
        for lines in wrong:
            self.check(is_log, False, CAR, (lines, [], 0, 0))
            self.check(is_log, False, CAR, ([], lines, 0, 0))

    def test_forms(self):
        wrong = [[[], [], 0, 0], ([], [], 0), ([], []), ([], [], 0, 0, 0), (), [], ([], [], 0, 0, None), (0, 0, [], [])]
        self.check_values(is_log, False, wrong, CAR)

    def test_other_values(self):
        self.check_values(is_log, False, ODD, CAR)

    def test_very_many_lines(self):
        lines = [(time, "car", None) for time in range(50000)]
        self.assertIs(is_log(CAR, (lines, lines, 0, 0)), True)
        self.assertIs(is_log(CAR, ([*lines, (0, "bus", None)], lines, 0, 0)), False)
        self.assertIs(is_log(CAR, (lines, [*lines, (0, "bus", None)], 0, 0)), False)

    def test_lines_alike_are_told_from_lines(self):
        # All values are tried that differ from a log in one part.
        found = sum(is_log(CAR, value) for value in spoilt(LOG))
        by_part = [is_log(CAR, value) for value in spoilt(([(1, "car", "A")], [], 1, 1))]
        # Of the odd values, these may stand there: the times 0, 1 and 10**9, the kinds None and "car", the plates None
        # and "AB12", and the floors 0, 1, 10**9 and "closed".
        self.assertEqual(sum(by_part), 3 + 2 + 2 + 2 * 4)
        self.assertEqual(found, 4 * (3 + 2 + 2) + 2 * 4)


class FitsTest(Case):
    def test_travel_times(self):
        for travel in range(-12, 30):
            self.check(fits, 5 <= travel <= 10, CAR, (100, "car", None), (100 + travel, "car", None))
            self.check(fits, 0 <= travel <= 0, {"car": (0, 0)}, (100, "car", None), (100 + travel, "car", None))

    def test_kinds(self):
        for entry_kind in ("van", "bike", None):
            for exit_kind in ("van", "bike", None):
                shared = set(GAP)
                for name in (entry_kind, exit_kind):
                    shared &= {name} if name else set(GAP)
                for travel in range(20):
                    expected = any(GAP[name][0] <= travel <= GAP[name][1] for name in shared)
                    self.check(fits, expected, GAP, (9, entry_kind, None), (9 + travel, exit_kind, None))

    def test_many_kinds(self):
        kinds = {name: (10 * number, 10 * number + 1) for number, name in enumerate("abcdefgh")}
        for travel in range(85):
            self.check(fits, travel % 10 < 2 and travel < 80, kinds, (3, None, None), (3 + travel, None, None))
            self.check(fits, travel in (30, 31), kinds, (3, "d", None), (3 + travel, None, None))
            self.check(fits, travel in (70, 71), kinds, (3, None, None), (3 + travel, "h", None))

    def test_plates(self):
        for entry_plate in (None, "A", "AB", "0"):
            for exit_plate in (None, "A", "AB", "B", "O"):
                expected = entry_plate is None or exit_plate is None or entry_plate == exit_plate
                self.check(fits, expected, CAR, (0, "car", entry_plate), (5, "car", exit_plate))
                self.check(fits, False, CAR, (0, "car", entry_plate), (4, "car", exit_plate))

    def test_ends_of_times(self):
        kinds = {"car": (10 ** 6, 10 ** 6)}
        self.check(fits, True, kinds, (10 ** 9 - 10 ** 6, None, None), (10 ** 9, None, None))
        self.check(fits, False, kinds, (10 ** 9 - 10 ** 6 + 1, None, None), (10 ** 9, None, None))
        self.check(fits, False, kinds, (10 ** 9 - 10 ** 6 - 1, None, None), (10 ** 9, None, None))
        self.check(fits, True, {"car": (0, 10 ** 6)}, (0, None, None), (10 ** 6, None, None))
        self.check(fits, False, {"car": (0, 10 ** 6)}, (0, None, None), (10 ** 6 + 1, None, None))

    def test_examples(self):
        kinds = {"bus": (8, 20), "car": (5, 10)}
        self.check(fits, False, kinds, (100, None, "AB12"), (107, "bus", None))
        self.check(fits, True, kinds, (100, None, "AB12"), (108, "bus", None))


class OpenTest(Case):
    def check_line(self, expected, kinds, line, gate, floor):
        """The other lines and the floor of the line's own gate make no difference."""
        other = (3, None, None)
        for own_floor in (0, 50, 10 ** 9, "closed"):
            for lines in ([line], [line, other], [other, line], [line, line]):
                number = lines.index(line)
                log = (lines, [other], own_floor, floor) if gate == "entries" else ([other], lines, floor, own_floor)
                self.check(may_be_open, expected, kinds, log, gate, number)
                self.assertEqual(number in must_lines(kinds, log, gate), not expected)

    def test_entry_and_floor(self):
        for floor in range(120):
            self.check_line(floor <= 110, CAR, (100, "car", None), "entries", floor)
            self.check_line(floor <= 114, GAP, (100, None, None), "entries", floor)
            self.check_line(floor <= 106, GAP, (100, "bike", None), "entries", floor)
            self.check_line(floor <= 114, GAP, (100, "van", "A"), "entries", floor)

    def test_entry_and_the_last_time(self):
        last = 10 ** 9
        for before in range(20):
            self.check_line(before >= 5, CAR, (last - before, "car", None), "entries", 0)
            self.check_line(5 <= before <= 10, CAR, (last - before, None, "AB12"), "entries", last)
            self.check_line(before >= 5, GAP, (last - before, None, None), "entries", 0)
            self.check_line(before >= 12, GAP, (last - before, "van", None), "entries", 0)
            # The floor leaves the last time only, so the vehicle must be able to need just this travel time.
            self.check_line(before in (5, 6, 12, 13, 14), GAP, (last - before, None, None), "entries", last)
            self.check_line(before <= 20, {"car": (0, 20)}, (last - before, None, None), "entries", last)

    def test_exit_and_floor(self):
        for floor in range(120):
            self.check_line(floor <= 95, CAR, (100, "car", None), "exits", floor)
            self.check_line(floor <= 95, GAP, (100, None, None), "exits", floor)
            self.check_line(floor <= 95, GAP, (100, "bike", "A"), "exits", floor)
            self.check_line(floor <= 88, GAP, (100, "van", None), "exits", floor)

    def test_exit_and_the_first_time(self):
        for time in range(20):
            self.check_line(time >= 5, CAR, (time, "car", None), "exits", 0)
            self.check_line(time >= 12, GAP, (time, "van", None), "exits", 0)
            self.check_line(time >= 5, GAP, (time, None, None), "exits", 0)
        self.check_line(True, {"car": (0, 0)}, (0, "car", None), "exits", 0)
        self.check_line(False, {"car": (0, 0)}, (0, "car", None), "exits", 1)
        self.check_line(True, {"car": (0, 0)}, (10 ** 9, "car", None), "exits", 10 ** 9)
        self.check_line(False, {"car": (1, 1)}, (10 ** 9, "car", None), "exits", 10 ** 9)
        self.check_line(True, {"car": (10 ** 6, 10 ** 6)}, (10 ** 6, "car", None), "exits", 0)
        self.check_line(False, {"car": (10 ** 6, 10 ** 6)}, (10 ** 6 - 1, "car", None), "exits", 0)

    def test_closed_gate(self):
        for time in (0, 5, 100, 10 ** 9):
            for gate in GATES:
                self.check_line(False, CAR, (time, "car", None), gate, "closed")
                self.check_line(False, GAP, (time, None, "A"), gate, "closed")

    def test_examples(self):
        self.check(may_be_open, False, CAR, LOG, "entries", 0)
        self.check(may_be_open, True, CAR, LOG, "entries", 1)
        self.check(may_be_open, True, CAR, LOG, "exits", 0)
        self.check(must_lines, [0], CAR, LOG, "entries")
        self.check(must_lines, [], CAR, LOG, "exits")

    def test_must_lines(self):
        lines = [(time, "car", None) for time in (9, 0, 7, 5, 10 ** 9, 4, 0, 6)]
        self.check(must_lines, list(range(8)), CAR, (lines, lines, "closed", "closed"), "entries")
        self.check(must_lines, list(range(8)), CAR, (lines, lines, "closed", "closed"), "exits")
        self.check(must_lines, [1, 3, 4, 5, 6], CAR, (lines, [], "closed", 16), "entries")
        self.check(must_lines, [1, 5, 6], CAR, ([], lines, 0, "closed"), "exits")
        self.check(must_lines, [], CAR, ([], [], "closed", "closed"), "entries")
        self.check(must_lines, [], CAR, ([], [], "closed", "closed"), "exits")

    def test_small_logs(self):
        for kinds, log in small_logs(400):
            for gate in GATES:
                self.check(must_lines, reference.musts(kinds, log, gate), kinds, log, gate)
                for number in range(len(log[GATES.index(gate)])):
                    expected = not reference.is_must(kinds, log, gate, number)
                    self.check(may_be_open, expected, kinds, log, gate, number)

    def test_returned_list_is_new(self):
        first = must_lines(CAR, LOG, "entries")
        first.append(7)
        first[0] = 5
        self.assertEqual(must_lines(CAR, LOG, "entries"), [0])


class NamesTest(unittest.TestCase):
    def test_arguments_by_name(self):
        line = (0, "car", None)
        self.assertIs(is_kinds(value=CAR), True)
        self.assertIs(is_line(kinds=CAR, value=line), True)
        self.assertIs(is_log(kinds=CAR, value=LOG), True)
        self.assertIs(fits(kinds=CAR, entry_line=line, exit_line=(5, "car", None)), True)
        self.assertIs(may_be_open(kinds=CAR, log=LOG, gate="entries", number=1), True)
        self.assertEqual(must_lines(kinds=CAR, log=LOG, gate="entries"), [0])

    def test_functions_are_defined_in_this_file(self):
        for function in (is_kinds, is_line, is_log, fits, may_be_open, must_lines):
            self.assertEqual(function.__module__, "gatepairs.lines")


if __name__ == "__main__":
    unittest.main()
