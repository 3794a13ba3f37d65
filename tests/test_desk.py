import re
import unittest
from itertools import product
from random import Random

from gatepairs.desk import Desk
from gatepairs.errors import (
    Contradiction,
    GateError,
    GateFull,
    InvalidRow,
    LateLine,
    LowerFloor,
    UnknownLine,
    UnknownMonitor,
)
from gatepairs.monitor import Monitor
from gatepairs.text import format_log
from tests.samples import same
from tests.test_text import LONG, SIGNS, WRONG_NUMBERS, changed_texts, is_number

NAME = "[a-z]{1,8}"
KIND = f"(-|{NAME})"
PLATE = "(-|[A-Z0-9]{1,8})"
GATE = "(entries|exits)"
DIGITS = "([0-9]+)"
# The forms of point 24. The digits must make a number.
FORMS = [
    "names",
    f"(in|out) ({NAME}) {DIGITS} {KIND} {PLATE}",
    f"floor ({NAME}) {GATE} {DIGITS}",
    f"close ({NAME}) {GATE}",
    f"(news|forget|log) ({NAME})",
    f"outcomes ({NAME}) {DIGITS}",
    f"fork ({NAME}) ({NAME})",
]
NUMBER_PLACES = {"in": 2, "out": 2, "floor": 3, "outcomes": 2}


def table_of(words):
    """The kinds table that the words behind the name of an open row make, or None."""
    if not 3 <= len(words) <= 24 or len(words) % 3:
        return None
    table = {}
    for name, shortest, longest in zip(*[words[place::3] for place in range(3)]):
        if name in table or not re.fullmatch(NAME, name) or not is_number(shortest) or not is_number(longest):
            return None
        if not int(shortest) <= int(longest) <= 10 ** 6:
            return None
        table[name] = (int(shortest), int(longest))
    return table


class Model:
    """A desk by the words of the document, over monitors."""

    def __init__(self):
        self.monitors = {}

    def say(self, row):
        words = row.split(" ")
        if words[0] == "open":
            table = table_of(words[2:])
            if table is None or not re.fullmatch(NAME, words[1]):
                raise InvalidRow(row)
            self.monitors[words[1]] = Monitor(table)
            return "ok"
        place = NUMBER_PLACES.get(words[0])
        if not any(re.fullmatch(form, row) for form in FORMS) or (place and not is_number(words[place])):
            raise InvalidRow(row)
        if row == "names":
            return " ".join(sorted(self.monitors)) or "none"
        if words[1] not in self.monitors:
            raise UnknownMonitor(words[1])
        monitor = self.monitors[words[1]]
        if words[0] == "fork":
            self.monitors[words[2]] = monitor.fork()
        if words[0] in ("in", "out"):
            kind, plate = [None if word == "-" else word for word in words[3:]]
            if kind is not None and kind not in monitor.kinds:
                raise InvalidRow(row)
            return str((monitor.enter if words[0] == "in" else monitor.leave)(int(words[2]), kind, plate))
        if words[0] == "floor":
            monitor.raise_floor(words[2], int(words[3]))
        if words[0] == "close":
            monitor.close(words[2])
        if words[0] == "news":
            return " ".join(f"{entry}-{leaving}" for entry, leaving in monitor.news()) or "none"
        if words[0] == "outcomes":
            exits, is_open = monitor.outcomes(int(words[2]))
            return " ".join([*map(str, exits), *["open"] * is_open]) or "none"
        if words[0] == "forget":
            return str(monitor.forget())
        if words[0] == "log":
            return format_log(monitor.snapshot()[0])
        return "ok"


def answer(desk, row):
    """The answer, or the class of the error and what it carries."""
    try:
        return desk.say(row)
    except GateError as error:
        return type(error), vars(error)


def look(desk):
    """All names and logs of the desk."""
    names = desk.say("names")
    return [(name, desk.say(f"log {name}")) for name in names.split(" ") if names != "none"]


class DeskCase(unittest.TestCase):
    def say_all(self, desk, *rows):
        return [desk.say(row) for row in rows]

    def check_error(self, desk, row, kind, value):
        """The row raises just this error, which carries this value, and nothing changes."""
        before = look(desk)
        found = answer(desk, row)
        self.assertIs(found[0], kind, row[:50])
        self.assertTrue(same(list(found[1].values()), [value]))
        self.assertEqual(look(desk), before)

    def check_invalid(self, desk, *rows):
        for row in rows:
            with self.subTest(row=row[:50]):
                self.check_error(desk, row, InvalidRow, row)


class ExampleTest(DeskCase):
    def test_example(self):
        rows = ["open m car 5 10", "in m 0 car -", "out m 7 car -", "floor m exits 11", "news m"]
        self.assertEqual(self.say_all(Desk(), *rows), ["ok", "0", "0", "ok", "0-0"])


class AnswerTest(DeskCase):
    def desk(self):
        """A desk with a monitor m that has two entries and an exit."""
        desk = Desk()
        self.say_all(desk, "open m car 5 10 bus 8 20", "in m 0 car -", "in m 2 - AB12", "out m 7 car -")
        return desk

    def test_names(self):
        desk = Desk()
        self.assertEqual(desk.say("names"), "none")
        for name in ("m", "zz", "a", "abcdefgh", "names", "none", "ab", "open", "b"):
            self.assertEqual(desk.say(f"open {name} car 5 10"), "ok")
        self.assertEqual(desk.say("names"), "a ab abcdefgh b m names none open zz")

    def test_lines(self):
        desk = self.desk()
        self.assertEqual(self.say_all(desk, "in m 50 bus A1", "in m 51 - -", "out m 60 bus -"), ["2", "3", "1"])
        log = "floors 0 0\nin 0 car -\nin 2 - AB12\nin 50 bus A1\nin 51 - -\nout 7 car -\nout 60 bus -"
        self.assertEqual(desk.say("log m"), log)
        self.assertEqual(self.say_all(desk, "in m 999999995 - -", "out m 1000000000 - 12345678"), ["4", "2"])
        # An entry at the last time fits no later exit.
        self.check_error(desk, "in m 1000000000 - -", Contradiction, ("entries", [5]))

    def test_floors(self):
        desk = self.desk()
        self.assertEqual(self.say_all(desk, "floor m entries 0", "floor m entries 2", "floor m exits 12"), ["ok"] * 3)
        self.assertTrue(desk.say("log m").startswith("floors 2 12\n"))
        self.assertEqual(self.say_all(desk, "floor m entries 1000000000"), ["ok"])
        self.assertTrue(desk.say("log m").startswith("floors 1000000000 12\n"))
        self.assertEqual(self.say_all(desk, "close m entries", "close m entries"), ["ok", "ok"])
        self.assertTrue(desk.say("log m").startswith("floors closed 12\n"))
        self.assertEqual(self.say_all(desk, "out m 12 - -", "close m exits"), ["1", "ok"])
        self.assertEqual(desk.say("log m"), "floors closed closed\nin 0 car -\nin 2 - AB12\nout 7 car -\nout 12 - -")

    def test_news(self):
        desk = Desk()
        self.say_all(desk, "open m car 5 10", "in m 20 car -", "in m 0 car -", "out m 7 car -", "out m 27 car -")
        rows = ["news m", "floor m exits 31", "news m", "news m"]
        self.assertEqual(self.say_all(desk, *rows), ["none", "ok", "0-1 1-0", "none"])
        self.say_all(desk, *[f"in m {100 + 30 * number} car -" for number in range(10)])
        self.say_all(desk, *[f"out m {107 + 30 * number} car -" for number in range(10)], "close m exits")
        self.assertEqual(desk.say("news m"), " ".join(f"{number}-{number}" for number in range(2, 12)))

    def test_outcomes(self):
        desk = self.desk()
        self.assertEqual(self.say_all(desk, "outcomes m 0", "outcomes m 1"), ["0 open", "0 open"])
        self.say_all(desk, "floor m exits 12")
        self.assertEqual(self.say_all(desk, "outcomes m 0", "outcomes m 1"), ["0", "open"])
        self.say_all(desk, "open n car 0 9", *[f"in n {number} - -" for number in range(3)])
        self.say_all(desk, *["out n 5 - -"] * 12)
        self.assertEqual(desk.say("outcomes n 1"), "0 1 2 3 4 5 6 7 8 9 10 11 open")

    def test_forget(self):
        desk = self.desk()
        self.say_all(desk, "floor m exits 12")
        rows = ["forget m", "news m", "forget m", "forget m", "log m", "outcomes m 1", "in m 30 - -"]
        expected = ["0", "0-0", "1", "0", "floors 0 12\nin 2 - AB12", "open", "2"]
        self.assertEqual(self.say_all(desk, *rows), expected)
        self.check_error(desk, "outcomes m 0", UnknownLine, 0)

    def test_log_without_lines(self):
        desk = Desk()
        self.assertEqual(self.say_all(desk, "open m a 0 0", "log m"), ["ok", "floors 0 0"])

    def test_open_again(self):
        desk = self.desk()
        self.assertEqual(self.say_all(desk, "open m van 1 2", "log m", "names"), ["ok", "floors 0 0", "m"])
        self.assertEqual(self.say_all(desk, "in m 0 van -", "news m"), ["0", "none"])
        self.check_invalid(desk, "in m 0 car -")

    def test_monitors_named_like_words_of_the_rows(self):
        words = ["names", "open", "in", "out", "floor", "close", "news", "outcomes", "forget", "fork", "log", "none"]
        for name in words:
            desk = self.desk()
            rows = [f"open {name} car 5 10", f"in {name} 0 car -", f"out {name} 7 car -", f"floor {name} exits 11"]
            self.assertEqual(self.say_all(desk, *rows), ["ok", "0", "0", "ok"])
            rows = [f"news {name}", f"outcomes {name} 0", f"log {name}", f"forget {name}", f"close {name} entries"]
            log = "floors 0 11\nin 0 car -\nout 7 car -"
            self.assertEqual(self.say_all(desk, *rows), ["0-0", "0", log, "1", "ok"])
            self.assertEqual(self.say_all(desk, f"fork m {name}", f"fork {name} other"), ["ok", "ok"])
            self.assertEqual(desk.say("names"), " ".join(sorted(["m", "other", name])))
            self.assertEqual(desk.say("log other"), desk.say("log m"))

    def test_fork(self):
        desk = self.desk()
        self.say_all(desk, "floor m exits 12", "news m")
        before = desk.say("log m")
        self.assertEqual(self.say_all(desk, "fork m n", "names", "log n", "news n"), ["ok", "m n", before, "none"])
        self.assertEqual(self.say_all(desk, "forget n", "in n 50 - -"), ["1", "2"])
        self.assertEqual(self.say_all(desk, "log m", "in m 60 - -", "in m 61 - -"), [before, "2", "3"])
        self.assertEqual(desk.say("log n"), "floors 0 12\nin 2 - AB12\nin 50 - -")
        # The other name is taken by the copy, whatever stood there.
        self.assertEqual(self.say_all(desk, "fork n m", "log m", "names"), ["ok", desk.say("log n"), "m n"])
        self.assertEqual(self.say_all(desk, "in m 70 - -", "log n"), ["3", "floors 0 12\nin 2 - AB12\nin 50 - -"])

    def test_fork_onto_itself(self):
        desk = self.desk()
        self.say_all(desk, "floor m exits 12")
        before = desk.say("log m")
        self.assertEqual(self.say_all(desk, "fork m m", "log m", "names", "news m"), ["ok", before, "m", "0-0"])
        self.assertEqual(self.say_all(desk, "fork m m", "news m", "forget m", "in m 50 - -"), ["ok", "none", "1", "2"])

    def test_two_desks(self):
        first, second = self.desk(), Desk()
        self.assertEqual(second.say("names"), "none")
        self.check_error(second, "log m", UnknownMonitor, "m")
        self.say_all(second, "open m car 1 2", "open n car 1 2")
        self.assertEqual(first.say("names"), "m")
        self.assertNotEqual(first.say("log m"), second.say("log m"))


class FormTest(DeskCase):
    def desk(self):
        desk = Desk()
        self.say_all(desk, "open m car 5 10", "in m 0 car -", "in m 2 car -", "out m 7 car -", "floor m exits 12")
        return desk

    def test_tables(self):
        desk = self.desk()
        groups = [f"{name} {place} {10 ** 6 - place}" for place, name in enumerate("abcdefgh")]
        for many in range(1, 9):
            self.assertEqual(desk.say(f"open new {' '.join(groups[:many])}"), "ok")
            self.assertEqual(desk.say(f"in new 5 {'abcdefgh'[many - 1]} -"), "0")
        self.assertEqual(desk.say("open new zzzzzzzz 0 0"), "ok")
        self.assertEqual(desk.say("open new a 1000000 1000000"), "ok")
        self.assertEqual(desk.say("open new open 0 1000000 in 3 3"), "ok")
        nine = " ".join([*groups, "i 0 0"])
        ends = [nine, f"{nine} j 0 0", "a", "a 0", "0 0", "a 0 0 b", "a 0 0 b 0", "a 0 0 0 0", "a 0 0 0", "- 0 0"]
        ends += ["a - -", "a 2 1", "a 1 0", "a 0 1000001", "a 1000001 1000001", "a 0 1000000000", "A 0 0", "a1 0 0"]
        ends += ["abcdefghi 0 0", "a 0 0 a 0 0", "a 0 0 a 1 2", "a 0 0 b 0 0 a 0 0", "b 0 0 a 0 0 a 3 4"]
        ends += [" ".join([*groups[:7], groups[0]])]
        ends += [f"a 0 {word}" for word in (*WRONG_NUMBERS, *LONG)]
        ends += [f"a {word} 1000000" for word in (*WRONG_NUMBERS, *LONG)]
        ends += [f"a 0 0 b {word} 1000000" for word in (*WRONG_NUMBERS, *LONG)]
        ends += ["a 0 0 b 2 1", " ".join(["a 0 0"] * 8), "a 0  0", "a 0 0 ", " a 0 0", "a 0 0\n", "a\n0 0", "a 0 0 \n"]
        ends += ["a 0 0 " * 10000 + "a 0 0", " " * 90000, "1" * 90000]
        self.check_invalid(desk, *[f"open new {end}" for end in ends], *[f"open m {end}" for end in ends])
        self.check_invalid(desk, "open", "open ", "open new", "open new ", "open car 5 10", "open  car 5 10")

    def test_names(self):
        desk = self.desk()
        rows = ["open {} car 5 10", "in {} 0 car -", "out {} 0 car -", "floor {} exits 12", "close {} entries"]
        rows += ["news {}", "outcomes {} 0", "forget {}", "fork {} m", "fork m {}", "fork n {}", "log {}"]
        for name in ("M", "m1", "abcdefghi", "-", "", "m\n", "\nm", "m ", " m", "m m", "1", "Ab", "a-b", "a" * 90000):
            self.check_invalid(desk, *[row.format(name) for row in rows])

    def test_numbers_of_words(self):
        desk = self.desk()
        rows = ["names", "in m 50 car -", "out m 50 car A", "floor m exits 12", "close m entries", "news m", "log m"]
        rows += ["outcomes m 0", "forget m", "fork m n", "open m car 5 10"]
        for row in rows:
            words = row.split(" ")
            self.check_invalid(desk, f"{row} ", f" {row}", f"{row} x", f"{row} 0", f"{row} -", f"{row}\n", f"\n{row}")
            self.check_invalid(desk, row.upper(), row.capitalize(), f"x {row}", row + " " * 90000, row + "." * 90000)
            for place in range(len(words)):
                if len(words) > 1:
                    self.check_invalid(desk, " ".join(words[:place] + words[place + 1 :]))
                self.check_invalid(desk, " ".join(words[: place + 1] + words[place:]))
            for place in range(1, len(words)):
                self.check_invalid(desk, f"{' '.join(words[:place])}  {' '.join(words[place:])}")
                self.check_invalid(desk, f"{' '.join(words[:place])}\n{' '.join(words[place:])}")
                self.check_invalid(desk, f"{' '.join(words[:place])},{' '.join(words[place:])}")
        self.check_invalid(desk, "", " ", "\n", "-", "0", "ok", "none", "m", "name", "opens m car 5 10")
        self.check_invalid(desk, "enter m 0 - -", "snapshot m", "raise m exits 12", "open m", "lines m")
        self.check_invalid(desk, " " * 100000, "\n" * 100000)

    def test_numbers(self):
        desk = self.desk()
        for word in (*WRONG_NUMBERS, *LONG):
            self.check_invalid(desk, f"in m {word} car -", f"out m {word} car -", f"floor m exits {word}")
            self.check_invalid(desk, f"floor m entries {word}", f"outcomes m {word}")
        for number in (2, 3, 40, 10 ** 9 - 1, 10 ** 9):
            self.check_error(desk, f"outcomes m {number}", UnknownLine, number)
        self.assertEqual(desk.say("outcomes m 0"), "0")
        self.check_error(desk, "floor m exits 0", LowerFloor, 0)
        self.assertEqual(self.say_all(desk, "floor m entries 0", "floor m entries 1000000000"), ["ok", "ok"])
        self.check_invalid(desk, "floor m exits closed", "floor m exits -", "floor m closed entries", "close m closed")

    def test_gates(self):
        desk = self.desk()
        for gate in ("entry", "exit", "Entries", "EXITS", "-", "", "in", "out", "entriesexits", "exits\n", "both", "0"):
            self.check_invalid(desk, f"floor m {gate} 12", f"close m {gate}")

    def test_kinds_and_plates(self):
        desk = self.desk()
        for kind in ("Car", "c1", "abcdefghi", "", "--", "c-r", "0", "car\n", "a" * 90000):
            self.check_invalid(desk, *[f"{start} 50 {kind} -" for start in ("in m", "out m", "in x", "out x")])
        for plate in ("ABCDEFGHI", "ab", "", "--", "A-", "A B", "A\n", "~", "A.", "0" * 90000):
            self.check_invalid(desk, *[f"{start} 50 car {plate}" for start in ("in m", "out m", "in x", "out x")])

    def test_log_is_read_again(self):
        # The rows of a written log, with the name put in, are rows of a desk.
        desk = self.desk()
        self.say_all(desk, "open n car 5 10")
        rows = desk.say("log m").split("\n")
        for row in rows[1:]:
            word, rest = row.split(" ", 1)
            desk.say(f"{word} n {rest}")
        desk.say(f"floor n exits {rows[0].split(' ')[2]}")
        self.assertEqual(desk.say("log n"), desk.say("log m"))


class ErrorOrderTest(DeskCase):
    def desk(self):
        desk = Desk()
        self.say_all(desk, "open m car 5 10", "floor m entries 50", "in m 60 car -", "floor m exits 62")
        return desk

    def test_form_ahead_of_the_name(self):
        self.check_invalid(self.desk(), "in x 0 CAR -", "in x 00 car -", "floor x exits 00", "outcomes x -1", "fork x")
        self.check_invalid(self.desk(), "close x both", "fork x M", "fork X m", "log x y", "news x 0", "forget x m")

    def test_unknown_names(self):
        desk = self.desk()
        rows = ["in x 60 car -", "out x 70 car -", "floor x exits 70", "close x exits", "news x", "outcomes x 0"]
        rows += ["forget x", "fork x m", "fork x y", "fork x x", "log x"]
        for row in rows:
            self.check_error(desk, row, UnknownMonitor, "x")
        self.check_error(desk, "fork abcdefgh x", UnknownMonitor, "abcdefgh")
        self.assertEqual(desk.say("names"), "m")
        # The second name of a fork may be new.
        self.assertEqual(self.say_all(desk, "fork m x", "names"), ["ok", "m x"])

    def test_name_ahead_of_the_kind(self):
        self.check_error(self.desk(), "in x 60 van -", UnknownMonitor, "x")
        self.check_error(self.desk(), "out x 60 in -", UnknownMonitor, "x")
        self.check_error(self.desk(), "outcomes x 77", UnknownMonitor, "x")

    def test_kind_ahead_of_the_errors_of_the_monitor(self):
        desk = self.desk()
        for word in ("in", "out"):
            for time in (0, 10, 70):
                self.check_invalid(desk, *[f"{word} m {time} {end}" for end in ("van -", "carr -", "closed A1")])
        self.check_error(desk, "in m 49 car -", LateLine, 49)
        self.check_error(desk, "in m 49 - -", LateLine, 49)
        self.check_error(desk, "out m 61 car -", LateLine, 61)
        self.assertEqual(self.say_all(desk, "close m entries"), ["ok"])
        self.check_invalid(desk, "in m 70 van -")
        self.check_error(desk, "in m 70 car -", LateLine, 70)

    def test_errors_of_the_monitor(self):
        desk = self.desk()
        self.check_error(desk, "close m exits", Contradiction, ("entries", [0]))
        self.check_error(desk, "floor m exits 71", Contradiction, ("entries", [0]))
        self.check_error(desk, "in m 50 car -", Contradiction, ("entries", [1]))
        self.check_error(desk, "floor m entries 49", LowerFloor, 49)
        self.check_error(desk, "floor m exits 61", LowerFloor, 61)
        self.check_error(desk, "outcomes m 1", UnknownLine, 1)
        self.say_all(desk, *["in m 100 - -"] * 39)
        self.check_error(desk, "in m 100 - -", GateFull, "entries")
        self.check_error(desk, "in m 49 - -", LateLine, 49)
        self.check_invalid(desk, "in m 100 van -")
        self.say_all(desk, *["out m 105 - -"] * 40)
        self.check_error(desk, "out m 105 - -", GateFull, "exits")

    def test_what_the_errors_carry(self):
        desk = self.desk()
        for row, name in (("log  m", "row"), ("log x", "name"), ("in m 70 van -", "row"), ("in m 1 - -", "time")):
            self.assertEqual(list(answer(desk, row)[1]), [name])


class HistoryTest(DeskCase):
    """Random rows, compared with the model."""

    def row(self, random):
        name = random.choice("mmmno")
        kind, plate = random.choice(["car", "car", "bus", "-", "van"]), random.choice(["-", "-", "A1", "B"])
        gate, time = random.choice(["entries", "exits"]), random.randrange(30)
        rows = [f"in {name} {time} {kind} {plate}"] * 6 + [f"out {name} {time} {kind} {plate}"] * 6
        rows += [f"floor {name} {gate} {time}"] * 3 + [f"close {name} {gate}", f"news {name}", f"news {name}", "names"]
        rows += [f"outcomes {name} {random.randrange(4)}"] * 2 + [f"forget {name}", f"log {name}"]
        more = random.choice([" bus 1 9", " van 3 3", ""])
        rows += [f"fork {name} {random.choice('mno')}", f"open {name} car 2 6{more}"] * 3
        return random.choice(rows)

    def test_histories(self):
        random = Random(53)
        answers = []
        for _ in range(500):
            desk, model = Desk(), Model()
            for _ in range(40):
                row = self.row(random)
                if random.randrange(6) == 0:
                    row = next(changed_texts(random, row, 1))
                before = look(desk)
                found = answer(desk, row)
                self.assertTrue(same(found, answer(model, row)), (row, found))
                if isinstance(found, tuple):
                    self.assertEqual(look(desk), before)
                answers.append(found[0] if isinstance(found, tuple) else row.split(" ")[0])
            self.assertEqual(look(desk), look(model))
        for kind in (InvalidRow, UnknownMonitor, LateLine, LowerFloor, Contradiction, UnknownLine):
            self.assertGreater(answers.count(kind), 40, kind)
        for word in ("open", "names", "in", "out", "floor", "close", "news", "outcomes", "forget", "fork", "log"):
            self.assertGreater(answers.count(word), 40, word)

    def test_one_sign_changed(self):
        first, second = Desk(), Model()
        for desk in (first, second):
            for row in ("open m car 5 10 bus 8 20", "in m 0 car -", "in m 2 - AB12", "out m 7 car -"):
                desk.say(row)
        rows = ["open m car 5 10 bus 8 20", "names", "in m 100 car -", "out m 100 - AB12", "floor m exits 7"]
        rows += ["close m exits", "news m", "outcomes m 1", "forget m", "fork m n", "log m"]
        for row in rows:
            for place, sign in product(range(len(row) + 1), SIGNS):
                first_part, rest = row[:place], row[place:]
                for text in (first_part + sign + rest, first_part + sign + rest[1:], first_part + rest[1:]):
                    found = answer(self.copy(first), text)
                    self.assertTrue(same(found, answer(self.copy(second), text)), text)

    def copy(self, desk):
        other = type(desk)()
        other.monitors = {name: monitor.fork() for name, monitor in desk.monitors.items()}
        return other


class InterfaceTest(DeskCase):
    def test_method_is_defined_in_the_class(self):
        self.assertEqual(Desk.__module__, "gatepairs.desk")
        self.assertIn("say", vars(Desk))

    def test_argument_by_name(self):
        self.assertEqual(Desk().say(row="names"), "none")

    def test_answers_are_strings(self):
        desk = Desk()
        rows = ["open m car 5 10", "in m 0 car -", "out m 7 car -", "floor m exits 11", "news m", "news m"]
        rows += ["outcomes m 0", "names", "log m", "fork m n", "forget m", "close m entries"]
        for row in rows:
            self.assertIs(type(desk.say(row)), str)


if __name__ == "__main__":
    unittest.main()
