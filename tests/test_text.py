import re
import unittest
from itertools import product
from random import Random

from gatepairs.errors import InvalidText
from gatepairs.lines import is_line, is_log
from gatepairs.text import format_line, format_log, parse_line, parse_log
from tests.case import Case
from tests.samples import CAR, LOG, busy_logs, cars, large_logs, same, small_logs, tight_log

# Names of one and of eight letters, and names that are words of the written forms.
WORDS = {"a": (0, 1), "zzzzzzzz": (1, 2), "in": (0, 0), "out": (2, 2), "floors": (0, 9), "closed": (3, 4)}
KINDS = {**WORDS, "car": (5, 10)}
TIMES = (0, 1, 9, 10, 99, 123456789, 10 ** 9 - 1, 10 ** 9)
PLATES = (None, "A", "0", "00", "AB12", "ABCDEFGH", "12345678", "Z9")
LONG = ("1" * 5000, "9" * 4299, "1" + "0" * 4300, "0" * 3000, "0" * 2999 + "7", "7" * 11, "1" + "0" * 10)
WRONG_NUMBERS = ("", "00", "01", "-0", "-1", "+1", "1.0", "1_000", "1e3", "0x1", "a", "-", "1000000001", "10000000000")
SIGNS = " \n-+01 9aczAZ_.,~:"

NUMBER = "(0|[1-9][0-9]{0,9})"
FLOOR = f"({NUMBER}|closed)"


def is_number(word):
    return re.fullmatch(NUMBER, word) is not None and int(word) <= 10 ** 9


def is_written_line(kinds, text):
    """Point 23 for the text of a line."""
    words = text.split(" ")
    if len(words) != 3 or not is_number(words[0]) or words[1] not in [*kinds, "-"]:
        return False
    return re.fullmatch("-|[A-Z0-9]{1,8}", words[2]) is not None


def first_wrong_row(kinds, text):
    """The number of the first row that is in no written form of a log after the rows before it, or None."""
    rows = text.split("\n")
    floors = rows[0].split(" ")
    if len(floors) != 3 or floors[0] != "floors" or not all(w == "closed" or is_number(w) for w in floors[1:]):
        return 0
    exits_began = False
    for number, row in enumerate(rows[1:], 1):
        right = re.fullmatch("(in|out) (.*)", row)
        if right is None or (right[1] == "in" and exits_began) or not is_written_line(kinds, right[2]):
            return number
        exits_began = right[1] == "out"
    return None


class TextCase(Case):
    def wrong_row(self, function, kinds, text):
        """The row of the InvalidText that the function raises."""
        with self.assertRaises(InvalidText) as caught:
            function(kinds, text)
        self.assertIs(type(caught.exception), InvalidText)
        self.assertEqual(list(vars(caught.exception)), ["row"])
        self.assertIs(type(caught.exception.row), int)
        return caught.exception.row

    def check_line(self, kinds, text):
        """What parse_line makes of the text is what point 23 says. True if it makes a line."""
        if not is_written_line(kinds, text):
            self.assertEqual(self.wrong_row(parse_line, kinds, text), 0, repr(text))
            return False
        line = self.result(parse_line, kinds, text)
        self.assertIs(is_line(kinds, line), True)
        self.check(format_line, text, line)
        return True

    def check_log(self, kinds, text):
        """What parse_log makes of the text is what point 23 says. Returns the first wrong row, or None."""
        expected = first_wrong_row(kinds, text)
        if expected is not None:
            self.assertEqual(self.wrong_row(parse_log, kinds, text), expected, repr(text))
        else:
            log = parse_log(kinds, text)
            self.assertIs(is_log(kinds, log), True)
            self.assertEqual(format_log(log), text)
        return expected


def changed_texts(random, text, count):
    """Texts with one sign put in, left out or exchanged."""
    for _ in range(count):
        place = random.randrange(len(text) + 1)
        sign = random.choice(SIGNS)
        yield random.choice([
            text[:place] + sign + text[place:],
            text[:place] + text[place + 1 :],
            text[:place] + sign + text[place + 1 :],
        ])


class ExampleTest(TextCase):
    def test_lines(self):
        self.check(format_line, "12 car -", (12, "car", None))
        self.check(parse_line, (12, "car", "AB12"), CAR, "12 car AB12")

    def test_logs(self):
        written = "floors 0 closed\nin 0 car -\nout 7 - AB12"
        self.check(format_log, written, ([(0, "car", None)], [(7, None, "AB12")], 0, "closed"))
        self.assertEqual(self.wrong_row(parse_log, CAR, "floors 0 closed\nout 7 - -\nin 0 car -"), 2)


class LineTest(TextCase):
    def test_all_parts(self):
        for time, kind, plate in product(TIMES, [None, *KINDS], PLATES):
            written = f"{time} {'-' if kind is None else kind} {'-' if plate is None else plate}"
            self.check(format_line, written, (time, kind, plate))
            self.check(parse_line, (time, kind, plate), KINDS, written)

    def test_kinds_that_are_not_in_the_table(self):
        for kind in ("van", "ca", "cars", "Car", "None", "in", "closed", "carcarcar", "c-r", "--", ""):
            self.assertEqual(self.wrong_row(parse_line, CAR, f"12 {kind} -"), 0)
        # The same text is a line for another table.
        self.check(parse_line, (12, "in", None), WORDS, "12 in -")
        self.assertEqual(self.wrong_row(parse_line, WORDS, "12 car -"), 0)

    def test_times(self):
        for word in (*WRONG_NUMBERS, *LONG, " 1", "1 ", "\n1", "1\n", "closed"):
            self.assertEqual(self.wrong_row(parse_line, CAR, f"{word} car -"), 0, word[:20])

    def test_plates(self):
        for plate in ("ABCDEFGHI", "ab12", "A B", "A-1", "--", "", " ", "-A", "A-", "A.", "~", "A\n", "\n-", "None"):
            self.assertEqual(self.wrong_row(parse_line, CAR, f"12 car {plate}"), 0, plate)
        for digits in LONG:
            self.assertEqual(self.wrong_row(parse_line, CAR, f"12 car {digits}"), 0)
            self.assertEqual(self.wrong_row(parse_line, CAR, f"12 {digits} -"), 0)

    def test_numbers_of_words_and_spaces(self):
        wrong = ["", " ", "  ", "   ", "\n", "-", "- - -", "12", "12 car", "car", "12  car -", " 12 car -", "12 car - "]
        wrong += ["12 car  -", "12 car - -", "12 car -\n", "\n12 car -", "12\ncar -", "12 car\n-", "12car -", "12 car-"]
        wrong += ["car 12 -", "12 - car", "12,car,-", "in 12 car -", "12 12 car -", "12 car car -", "floors 0 0"]
        wrong += [" " * 100000, "1" * 100000, "12 car -" + " " * 99000, "\n" * 100000]
        for text in wrong:
            self.assertEqual(self.wrong_row(parse_line, CAR, text), 0)

    def test_one_sign_changed(self):
        random = Random(50)
        right = 0
        for _ in range(400):
            line = (random.choice(TIMES), random.choice([None, *KINDS]), random.choice(PLATES))
            for text in changed_texts(random, format_line(line), 12):
                right += self.check_line(KINDS, text)
        self.assertTrue(500 < right < 3500)

    def test_each_sign_left_out_or_doubled(self):
        for text in ("12 car AB12", "0 - -", "1000000000 car Z", "10 - 7"):
            for place in range(len(text)):
                self.check_line(CAR, text[:place] + text[place + 1 :])
                self.check_line(CAR, text[: place + 1] + text[place:])


class LogTest(TextCase):
    def check_both_ways(self, kinds, log, written=None):
        text = self.result(format_log, log)
        if written is not None:
            self.assertEqual(text, written)
        self.assertTrue(same(self.result(parse_log, kinds, text), log))
        self.assertIs(first_wrong_row(kinds, text), None)

    def test_logs_without_lines(self):
        floors = (0, 1, 10, 10 ** 9 - 1, 10 ** 9, "closed")
        for first, second in product(floors, repeat=2):
            self.check_both_ways(CAR, ([], [], first, second), f"floors {first} {second}")

    def test_lines_of_one_gate(self):
        self.check_both_ways(CAR, (cars([3, 1]), [], 0, 7), "floors 0 7\nin 3 car -\nin 1 car -")
        self.check_both_ways(CAR, ([], cars([3, 1], "AB"), "closed", 7), "floors closed 7\nout 3 car AB\nout 1 car AB")

    def test_words_of_the_written_forms_as_kinds(self):
        lines = [(number, kind, None) for number, kind in enumerate(WORDS)]
        rows = [f"{number} {kind} -" for number, kind in enumerate(WORDS)]
        written = "\n".join(["floors closed 0", *(f"in {row}" for row in rows), *(f"out {row}" for row in rows)])
        self.check_both_ways(WORDS, (lines, list(lines), "closed", 0), written)

    def test_other_logs(self):
        for kinds, log in [*small_logs(200), *busy_logs(100), (CAR, LOG)]:
            self.check_both_ways(kinds, log)
        lines = [(time, kind, plate) for time in TIMES for kind in (None, "in", "out") for plate in PLATES]
        self.check_both_ways(KINDS, (lines, lines[::-1], 5, 10 ** 9))

    def test_large_logs(self):
        for kinds, log in [*large_logs(5), ({"car": (0, 1)}, tight_log())]:
            self.check_both_ways(kinds, log)
            self.assertEqual(format_log(log).count("\n"), 160)
        many = (cars(range(2500)), cars(range(2500)), 0, 0)
        self.assertTrue(same(parse_log(CAR, format_log(many)), many))

    def test_first_wrong_row(self):
        rows = ["floors 0 closed", "in 0 car -", "in 1 - A1", "out 7 - AB12", "out 8 car -"]
        self.assertIs(self.check_log(CAR, "\n".join(rows)), None)
        wrong = ["", " ", "-", "in", "out", "floors", "in 0", "in 0 car", "in 0 van -", "in 0 car - -", "in  0 car -"]
        wrong += [" in 0 car -", "in 0 car - ", "in 0 car a", "0 car -", "on 0 car -", "In 0 car -", "floors 0 closed"]
        wrong += ["in 01 car -", "out 1000000001 car -", "out 0 car -out 0 car -", "closed 0 car -", "out  0 car -"]
        wrong += ["in " + number + " car -" for number in LONG]
        for place, row in product(range(1, len(rows)), wrong):
            self.assertEqual(self.wrong_row(parse_log, CAR, "\n".join([*rows[:place], row, *rows[place + 1 :]])), place)
            self.assertEqual(self.wrong_row(parse_log, CAR, "\n".join([*rows[:place], row, *rows[place:]])), place)
        # Of several wrong rows it is the first one.
        self.assertEqual(self.wrong_row(parse_log, CAR, "\n".join([*rows[:2], "in", "out", "", *rows[3:]])), 2)
        self.assertEqual(self.wrong_row(parse_log, CAR, "\n".join(["floors 0", "in", *rows[1:]])), 0)

    def test_entries_after_exits(self):
        for place in range(2, 8):
            rows = ["floors 0 0", "out 0 car -", *["out 1 - -"] * (place - 2), "in 0 car -", "out 1 - -", "in 0 car -"]
            self.assertEqual(self.wrong_row(parse_log, CAR, "\n".join(rows)), place)

    def test_newlines(self):
        text = "floors 0 closed\nin 0 car -\nout 7 - AB12"
        self.assertEqual(self.wrong_row(parse_log, CAR, ""), 0)
        self.assertEqual(self.wrong_row(parse_log, CAR, "\n"), 0)
        self.assertEqual(self.wrong_row(parse_log, CAR, "\n" + text), 0)
        self.assertEqual(self.wrong_row(parse_log, CAR, text + "\n"), 3)
        self.assertEqual(self.wrong_row(parse_log, CAR, text + "\n\n"), 3)
        self.assertEqual(self.wrong_row(parse_log, CAR, "floors 0 closed\n"), 1)
        self.assertEqual(self.wrong_row(parse_log, CAR, text.replace("\n", "\n\n")), 1)
        self.assertEqual(self.wrong_row(parse_log, CAR, text.replace("\n", " ")), 0)
        self.assertEqual(self.wrong_row(parse_log, CAR, "\n" * 100000), 0)
        self.assertEqual(self.wrong_row(parse_log, CAR, "floors 0 0\n" + " " * 99000), 1)

    def test_first_row(self):
        wrong = ["floors", "floors 0", "floors 0 0 0", "floor 0 0", "Floors 0 0", "0 0", "floors  0 0", "floors 0  0"]
        wrong += [" floors 0 0", "floors 0 0 ", "floors - 0", "floors 0 -", "floors Closed 0", "in 0 car -"]
        wrong += [f"floors {word} 0" for word in (*WRONG_NUMBERS, *LONG)]
        wrong += [f"floors closed {word}" for word in (*WRONG_NUMBERS, *LONG)]
        for row in wrong:
            self.assertEqual(self.wrong_row(parse_log, CAR, row), 0)
            self.assertEqual(self.wrong_row(parse_log, CAR, f"{row}\nin 0 car -"), 0)

    def test_one_sign_changed(self):
        random = Random(51)
        found = []
        for kinds, log in [*small_logs(150), *busy_logs(50), (CAR, LOG)]:
            for text in changed_texts(random, format_log(log), 12):
                found.append(self.check_log(kinds, text))
        for row in (None, 0, 1, 2, 3):
            self.assertGreater(found.count(row), 50)

    def test_rows_and_words_changed(self):
        random = Random(52)
        found = []
        for kinds, log in [*small_logs(200), *busy_logs(100)]:
            rows = format_log(log).split("\n")
            places = [random.randrange(len(rows)) for _ in range(2)]
            words = rows[places[0]].split(" ")
            at = random.randrange(len(words))
            changed = [
                [*rows[: places[0]], *rows[places[0] + 1 :]],
                [*rows[: places[0]], *rows[places[0] :][:1], *rows[places[0] :]],
                random.sample(rows, len(rows)),
                [*rows[: places[0]], rows[places[1]], *rows[places[0] + 1 :]],
            ]
            for other in (words[:at] + words[at + 1 :], words[: at + 1] + words[at:], random.sample(words, len(words))):
                changed.append([*rows[: places[0]], " ".join(other), *rows[places[0] + 1 :]])
            for text in changed:
                found.append(self.check_log(kinds, "\n".join(text)))
        for row in (None, 0, 1, 2, 3):
            self.assertGreater(found.count(row), 20)


class InterfaceTest(unittest.TestCase):
    def test_arguments_by_name(self):
        self.assertEqual(format_line(line=(1, None, None)), "1 - -")
        self.assertEqual(parse_line(text="1 - -", kinds=CAR), (1, None, None))
        self.assertEqual(format_log(log=([], [], 0, 0)), "floors 0 0")
        self.assertEqual(parse_log(text="floors 0 0", kinds=CAR), ([], [], 0, 0))

    def test_functions_are_defined_in_this_file(self):
        for function in (format_line, parse_line, format_log, parse_log):
            self.assertEqual(function.__module__, "gatepairs.text")


if __name__ == "__main__":
    unittest.main()
