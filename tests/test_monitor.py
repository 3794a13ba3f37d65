import unittest
from copy import deepcopy
from itertools import combinations_with_replacement, product
from random import Random

from gatepairs.errors import Contradiction, GateError, GateFull, LateLine, LowerFloor, UnknownLine
from gatepairs.monitor import Monitor
from gatepairs.worlds import is_excess
from tests import reference
from tests.case import Case, wreck
from tests.samples import CAR, GATES, LOG, busy_logs, cars, same, small_logs

TINY = {"car": (1, 2)}
TINY_PAIR = {"car": (1, 2), "van": (2, 3)}


def caught(function, *arguments, **named):
    """The error that the call raises, or None."""
    try:
        function(*arguments, **named)
    except GateError as error:
        return error
    return None


def filled(kinds, entries, exits, exit_floor=0):
    """A monitor that has logged cars at these times."""
    monitor = Monitor(kinds)
    for time in entries:
        monitor.enter(time, "car")
    for time in exits:
        monitor.leave(time, "car")
    monitor.raise_floor("exits", exit_floor)
    return monitor


def look(monitor):
    """All that can be seen of a monitor. Its news are asked of a fork, so that they stay new."""
    snapshot = monitor.snapshot()
    outcomes = [monitor.outcomes(number) for number in snapshot[1]]
    other = monitor.fork()
    news = other.news()
    return snapshot, outcomes, news, other.forget(), other.snapshot()


class Model:
    """What the document says of a monitor, from all worlds of the whole log. It forgets nothing and is slow."""

    def __init__(self, kinds, log=((), (), 0, 0)):
        self.kinds = kinds
        self.lines = [list(log[0]), list(log[1])]
        self.floors = list(log[2:])
        self.reported = []
        self.forgotten = []

    def log(self):
        return (*self.lines, *self.floors)

    def worlds(self):
        return reference.worlds(self.kinds, self.log())

    def kept(self, place):
        gone = [pair[place] for pair in self.forgotten]
        return [number for number in range(len(self.lines[place])) if number not in gone]

    def add(self, gate, line):
        """The number of the line, or the class of the error."""
        place = GATES.index(gate)
        if self.floors[place] == "closed" or line[0] < self.floors[place]:
            return LateLine
        if len(self.kept(place)) >= 40:
            return GateFull
        self.lines[place].append(line)
        if not self.worlds():
            self.lines[place].pop()
            return Contradiction
        return len(self.lines[place]) - 1

    def set_floor(self, gate, floor):
        """None, or the class of the error."""
        place = GATES.index(gate)
        old = self.floors[place]
        if floor != "closed" and (old == "closed" or old > floor):
            return LowerFloor
        self.floors[place] = floor
        if not self.worlds():
            self.floors[place] = old
            return Contradiction
        return None

    def certain(self):
        worlds = self.worlds()
        return [pair for pair in reference.all_pairs(self.lines) if all(pair in world for world in worlds)]

    def news(self):
        new = [pair for pair in self.certain() if pair not in self.reported]
        self.reported += new
        return new

    def forget(self):
        many = len(self.reported) - len(self.forgotten)
        self.forgotten = list(self.reported)
        return many

    def outcomes(self, entry):
        if entry not in self.kept(0):
            return UnknownLine
        pairs = [[pair for pair in world if pair[0] == entry] for world in self.worlds()]
        return sorted({found[0][1] for found in pairs if found}), [] in pairs

    def snapshot(self):
        numbers = [self.kept(place) for place in (0, 1)]
        lines = [[self.lines[place][number] for number in numbers[place]] for place in (0, 1)]
        return (*lines, *self.floors), *numbers


class MonitorTest(Case):
    def check_error(self, kind, attribute, value, function, *arguments, **named):
        error = caught(function, *arguments, **named)
        self.assertIs(type(error), kind)
        self.assertTrue(same(vars(error), {attribute: value}))

    def check_excess(self, monitor, change, function, *arguments):
        """The call raises Contradiction with an excess of the kept log after the change, by the monitor's numbers."""
        before = look(monitor)
        error = caught(function, *arguments)
        self.assertIs(type(error), Contradiction)
        self.assertTrue(same(look(monitor), before))
        log, *numbers = monitor.snapshot()
        log, numbers = change(log, numbers)
        gate, named = error.excess
        self.assertTrue(same(named, sorted(named)))
        places = [numbers[GATES.index(gate)].index(number) for number in named]
        self.assertIs(is_excess(monitor.kinds, log, (gate, places)), True)
        return error.excess


class ExampleTest(MonitorTest):
    def test_numbers(self):
        monitor = Monitor(CAR)
        found = [monitor.enter(0, "car"), monitor.enter(2, "car"), monitor.leave(7, "car")]
        self.assertTrue(same(found, [0, 1, 0]))

    def test_late_line(self):
        monitor = filled(CAR, [0, 2], [7], 12)
        self.check_error(LateLine, "time", 11, monitor.leave, 11, "car")

    def test_contradiction(self):
        monitor = Monitor(CAR)
        monitor.enter(0, "car")
        self.check_error(Contradiction, "excess", ("entries", [0]), monitor.close, "exits")

    def test_news(self):
        monitor = filled(CAR, [0, 2], [7], 12)
        self.assertTrue(same([monitor.news(), monitor.news()], [[(0, 0)], []]))

    def test_outcomes(self):
        monitor = filled(CAR, [0, 2], [7], 12)
        self.assertTrue(same([monitor.outcomes(0), monitor.outcomes(1)], [([0], False), ([], True)]))

    def test_forget(self):
        monitor = filled(CAR, [0, 2], [7], 12)
        self.assertEqual(monitor.news(), [(0, 0)])
        count = monitor.forget()
        self.assertTrue(same([count, monitor.snapshot()], [1, (([(2, "car", None)], [], 0, 12), [1], [])]))


class HistoryTest(MonitorTest):
    """Random calls, compared with the model."""

    def step(self, random, monitor, model, clock):
        kind = random.choice([None, *model.kinds])
        plate = random.choice([None, None, None, "A1", "B2"])
        time = max(0, clock + random.randrange(-3, 4))
        often = ["enter"] * 4 + ["leave"] * 4 + ["raise_floor"] * 4 + ["news"] * 3 + ["forget"] * 2
        name = random.choice(often + ["close", "outcomes"])
        gate = random.choice(GATES)
        if name in ("enter", "leave"):
            expected = model.add("entries" if name == "enter" else "exits", (time, kind, plate))
            return expected, lambda: getattr(monitor, name)(time, kind, plate)
        if name == "raise_floor":
            floor = max(0, clock + random.randrange(-2, 5))
            return model.set_floor(gate, floor), lambda: monitor.raise_floor(gate, floor)
        if name == "close":
            if random.randrange(3):
                return None, lambda: None
            return model.set_floor(gate, "closed"), lambda: monitor.close(gate)
        if name == "outcomes":
            number = random.randrange(-2, 6)
            return model.outcomes(number), lambda: monitor.outcomes(number)
        return getattr(model, name)(), getattr(monitor, name)

    def run_history(self, random, kinds, log=None):
        monitor = Monitor(kinds) if log is None else Monitor(kinds, start=log)
        model = Model(kinds) if log is None else Model(kinds, log)
        errors = []
        for number in range(random.randrange(6, 20)):
            expected, call = self.step(random, monitor, model, number)
            if isinstance(expected, type):
                error = caught(call)
                self.assertIs(type(error), expected)
                errors.append(expected)
            else:
                self.assertTrue(same(call(), expected))
            self.assertTrue(same(monitor.snapshot(), model.snapshot()))
            if random.randrange(4) == 0:
                monitor = monitor.fork()
            if max(map(len, model.lines)) > 4:
                break
        for number in range(-1, 6):
            expected = model.outcomes(number)
            if expected is UnknownLine:
                self.check_error(UnknownLine, "number", number, monitor.outcomes, number)
            else:
                self.assertTrue(same(monitor.outcomes(number), expected))
        self.assertTrue(same(monitor.news(), model.news()))
        self.assertTrue(model.worlds())
        return errors, len(model.reported), len(model.forgotten)

    def test_histories(self):
        random = Random(40)
        errors, reported, forgotten = [], 0, 0
        for _ in range(2500):
            kinds = random.choice([TINY, TINY_PAIR, {"car": (0, 3)}, {"car": (3, 3), "van": (1, 4)}])
            found = self.run_history(random, kinds)
            errors, reported, forgotten = errors + found[0], reported + found[1], forgotten + found[2]
        for kind in (LateLine, LowerFloor, Contradiction, UnknownLine):
            self.assertGreater(errors.count(kind), 50)
        self.assertGreater(reported, 150)
        self.assertGreater(forgotten, 50)

    def test_histories_that_start_with_a_log(self):
        random = Random(41)
        for kinds, log in [*small_logs(500), *busy_logs(100)]:
            if reference.worlds(kinds, log):
                self.run_history(random, kinds, log)
            else:
                error = caught(Monitor, kinds, start=log)
                self.assertIs(type(error), Contradiction)
                self.assertIs(is_excess(kinds, log, error.excess), True)


class CompletedLogsTest(MonitorTest):
    """The main fact: the news are what is in every world of every completed log."""

    def completed_logs(self, log, latest):
        """The completed logs with up to two additional lines a gate, with times to the latest one."""
        more = []
        for floor in log[2:]:
            times = [] if floor == "closed" else range(floor, latest + 1)
            more.append([cars(chosen) for many in range(3) for chosen in combinations_with_replacement(times, many)])
        for entries, exits in product(*more):
            yield log[0] + entries, log[1] + exits, "closed", "closed"

    def test_small_histories(self):
        random = Random(42)
        reports = 0
        for _ in range(150):
            monitor = Monitor(TINY)
            for _ in range(7):
                kind = random.choice(["enter", "leave", "leave", "floor", "floor"])
                time, gate = random.randrange(5), random.choice(GATES)
                log = monitor.snapshot()[0]
                if kind == "floor":
                    caught(monitor.raise_floor, gate, time)
                elif len(log[0 if kind == "enter" else 1]) < 2:
                    caught(getattr(monitor, kind), time, "car")
            log = monitor.snapshot()[0]
            worlds = [world for other in self.completed_logs(log, 6) for world in reference.worlds(TINY, other)]
            self.assertNotEqual(worlds, [])
            certain = [pair for pair in reference.all_pairs(log) if all(pair in world for world in worlds)]
            self.assertEqual(monitor.news(), certain)
            self.assertEqual(monitor.news(), [])
            reports += len(certain)
        self.assertGreater(reports, 10)

    def test_refused_calls_have_no_completed_log(self):
        monitor = Monitor(TINY)
        monitor.enter(0, "car")
        monitor.enter(1, "car")
        monitor.leave(2, "car")
        for floor in range(7):
            log = (*monitor.snapshot()[0][:3], floor)
            worlds = [world for other in self.completed_logs(log, 6) for world in reference.worlds(TINY, other)]
            error = caught(monitor.fork().raise_floor, "exits", floor)
            self.assertEqual(error is None, len(worlds) > 0)
            self.assertEqual(error is None, floor <= 3)


class RefusedTest(MonitorTest):
    def test_late_line_of_each_gate(self):
        for gate, name, other in (("entries", "enter", "leave"), ("exits", "leave", "enter")):
            monitor = Monitor(CAR)
            monitor.raise_floor(gate, 20)
            for time in (0, 19):
                self.check_error(LateLine, "time", time, getattr(monitor, name), time)
            self.assertEqual([getattr(monitor, name)(25), getattr(monitor, name)(26)], [0, 1])
            # The other gate has its own floor.
            self.assertNotIsInstance(caught(getattr(monitor, other), 5), LateLine)

    def test_line_just_at_the_floor(self):
        monitor = Monitor(CAR)
        monitor.raise_floor("entries", 20)
        self.check_error(LateLine, "time", 19, monitor.enter, 19, "car")
        self.assertEqual(monitor.enter(20, "car"), 0)
        monitor.raise_floor("exits", 25)
        self.check_error(LateLine, "time", 24, monitor.leave, 24, "car")
        self.assertEqual(monitor.leave(25, "car"), 0)
        monitor.raise_floor("entries", 10 ** 9)
        self.check_error(LateLine, "time", 10 ** 9 - 1, monitor.enter, 10 ** 9 - 1)

    def test_late_line_at_a_closed_gate(self):
        monitor = Monitor(CAR)
        monitor.close("entries")
        monitor.close("exits")
        for time in (0, 5, 10 ** 9):
            self.check_error(LateLine, "time", time, monitor.enter, time)
            self.check_error(LateLine, "time", time, monitor.leave, time)

    def forty(self, gate):
        """A monitor with forty lines at the gate that may be open."""
        monitor = Monitor(CAR)
        monitor.raise_floor(gate, 50)
        for number in range(40):
            found = monitor.enter(1000 + number, "car") if gate == "entries" else monitor.leave(1000 + number, "car")
            self.assertEqual(found, number)
        return monitor, monitor.enter if gate == "entries" else monitor.leave

    def test_gate_full(self):
        for gate in GATES:
            monitor, log_line = self.forty(gate)
            before = look(monitor)
            self.check_error(GateFull, "gate", gate, log_line, 1000, "car")
            self.check_error(GateFull, "gate", gate, log_line, 1000, "car")
            self.assertTrue(same(look(monitor), before))
            # The other gate has room.
            self.assertEqual(monitor.leave(1007) if gate == "entries" else monitor.enter(993), 0)

    def test_late_line_ahead_of_gate_full(self):
        for gate in GATES:
            monitor, log_line = self.forty(gate)
            self.check_error(LateLine, "time", 49, log_line, 49, "car")
            self.check_error(GateFull, "gate", gate, log_line, 50, "car")

    def test_gate_full_ahead_of_contradiction(self):
        # At 60 there was no car: its other passage would have been logged.
        for many, kind in ((39, Contradiction), (40, GateFull)):
            lines = cars(range(1000, 1000 + many))
            monitor = Monitor(CAR, start=(lines, [], 0, 1005))
            self.assertIs(type(caught(monitor.enter, 60, "car")), kind)
            monitor = Monitor(CAR, start=([], lines, 995, 0))
            self.assertIs(type(caught(monitor.leave, 60, "car")), kind)

    def test_late_line_ahead_of_contradiction(self):
        monitor = Monitor(CAR)
        monitor.raise_floor("entries", 50)
        monitor.raise_floor("exits", 100)
        self.check_error(LateLine, "time", 49, monitor.enter, 49, "car")
        self.check_error(Contradiction, "excess", ("entries", [0]), monitor.enter, 50, "car")
        self.check_error(LateLine, "time", 52, monitor.leave, 52, "car")

    def test_lower_floor(self):
        for gate in GATES:
            monitor = Monitor(CAR)
            monitor.raise_floor(gate, 20)
            self.check_error(LowerFloor, "floor", 19, monitor.raise_floor, gate, 19)
            self.check_error(LowerFloor, "floor", 0, monitor.raise_floor, gate, 0)
            # An equal floor is accepted.
            self.assertIs(monitor.raise_floor(gate, 20), None)
            self.assertIs(monitor.raise_floor(gate, 21), None)
            self.assertEqual(monitor.snapshot()[0][2 + GATES.index(gate)], 21)
            self.assertIs(monitor.raise_floor(gate, 10 ** 9), None)
            self.assertIs(monitor.close(gate), None)
            for floor in (0, 21, 10 ** 9):
                self.check_error(LowerFloor, "floor", floor, monitor.raise_floor, gate, floor)
            self.assertEqual(monitor.snapshot()[0][2 + GATES.index(gate)], "closed")
            self.assertEqual(monitor.snapshot()[0][3 - GATES.index(gate)], 0)

    def test_closed_gate_can_be_closed_again(self):
        for gate in GATES:
            monitor = Monitor(CAR)
            monitor.close(gate)
            before = look(monitor)
            self.assertIs(monitor.close(gate), None)
            self.assertTrue(same(look(monitor), before))

    def test_lower_floor_ahead_of_contradiction(self):
        # No accepted floor is lower, and a floor that is not higher changes nothing. So no call raises both of them,
        # but a lower floor is refused as such also where each higher one would be a contradiction.
        monitor = Monitor(CAR)
        monitor.enter(0, "car")
        monitor.raise_floor("exits", 10)
        self.check_error(LowerFloor, "floor", 9, monitor.raise_floor, "exits", 9)
        self.check_error(Contradiction, "excess", ("entries", [0]), monitor.raise_floor, "exits", 11)
        monitor = Monitor(CAR)
        monitor.leave(5, "car")
        monitor.raise_floor("entries", 0)
        self.check_error(Contradiction, "excess", ("exits", [0]), monitor.raise_floor, "entries", 1)
        self.check_error(Contradiction, "excess", ("exits", [0]), monitor.close, "entries")

    def test_errors_change_nothing(self):
        monitor = filled(CAR, [0, 2, 30], [7, 36], 12)
        monitor.raise_floor("entries", 32)
        self.assertEqual(monitor.news(), [(0, 0), (2, 1)])
        before = look(monitor)
        calls = [
            (LateLine, lambda: monitor.enter(30, "car")),
            (LateLine, lambda: monitor.leave(11, "car")),
            (Contradiction, lambda: monitor.leave(13, "car")),
            (LowerFloor, lambda: monitor.raise_floor("entries", 31)),
            (LowerFloor, lambda: monitor.raise_floor("exits", 5)),
            (Contradiction, lambda: monitor.raise_floor("exits", 13)),
            (Contradiction, lambda: monitor.close("exits")),
            (UnknownLine, lambda: monitor.outcomes(3)),
        ]
        for kind, call in calls:
            self.assertIs(type(caught(call)), kind)
            self.assertTrue(same(look(monitor), before))
        # The numbers go on as if nothing had happened.
        self.assertEqual([monitor.enter(32, "car"), monitor.leave(37, "car")], [3, 2])

    def test_refused_line_is_refused_again(self):
        monitor = Monitor(CAR)
        monitor.raise_floor("exits", 20)
        for _ in range(3):
            self.assertIs(type(caught(monitor.enter, 9, "car")), Contradiction)
            monitor.enter(50, "car")
            monitor.leave(57, "car")
        monitor.raise_floor("exits", 60)
        monitor.news()
        monitor.forget()
        self.assertIs(type(caught(monitor.enter, 9, "car")), Contradiction)
        self.assertIs(type(caught(monitor.fork().enter, 9, "car")), Contradiction)

    def test_refused_lines_of_small_histories(self):
        random = Random(43)
        count = 0
        for _ in range(300):
            monitor = Monitor(TINY)
            refused = []
            for number in range(12):
                name, time = random.choice(["enter", "leave", "floor"]), max(0, number + random.randrange(-3, 3))
                if name == "floor":
                    caught(monitor.raise_floor, random.choice(GATES), time)
                elif isinstance(caught(getattr(monitor, name), time, "car"), Contradiction):
                    refused.append((name, time))
                if random.randrange(3) == 0:
                    monitor.news()
                    monitor.forget()
                for name, time in refused:
                    self.assertIsInstance(caught(getattr(monitor, name), time, "car"), (Contradiction, LateLine))
                    count += 1
        self.assertGreater(count, 500)

    def test_refused_floor_may_be_accepted_later(self):
        monitor = Monitor(CAR)
        monitor.enter(0, "car")
        self.check_error(Contradiction, "excess", ("entries", [0]), monitor.raise_floor, "exits", 11)
        self.check_error(Contradiction, "excess", ("entries", [0]), monitor.close, "exits")
        monitor.leave(8, "car")
        self.assertIs(monitor.raise_floor("exits", 11), None)
        self.assertIs(monitor.close("exits"), None)
        monitor = Monitor(CAR)
        monitor.leave(8, "car")
        self.check_error(Contradiction, "excess", ("exits", [0]), monitor.raise_floor, "entries", 4)
        monitor.enter(3, "car")
        self.assertIs(monitor.raise_floor("entries", 4), None)

    def test_excess_names_the_lines_by_their_numbers(self):
        # The lines 0 of both gates are forgotten, so that the lines 1 stand in the first place.
        monitor = filled(CAR, [0, 20], [7], 11)
        self.assertEqual([monitor.news(), monitor.forget()], [[(0, 0)], 1])

        def closed(log, numbers):
            return (*log[:3], "closed"), numbers

        self.assertEqual(self.check_excess(monitor, closed, monitor.close, "exits"), ("entries", [1]))

        def raised(log, numbers):
            return (*log[:3], 31), numbers

        self.assertEqual(self.check_excess(monitor, raised, monitor.raise_floor, "exits", 31), ("entries", [1]))
        monitor.leave(27, "car")
        monitor.raise_floor("exits", 40)

        def entered(log, numbers):
            return (log[0] + cars([21]), *log[1:]), [numbers[0] + [2], numbers[1]]

        # The refused line is named by the number that it would get.
        self.assertEqual(self.check_excess(monitor, entered, monitor.enter, 21, "car"), ("entries", [1, 2]))
        monitor.raise_floor("entries", 41)

        def left(log, numbers):
            return (log[0], log[1] + cars([45]), *log[2:]), [numbers[0], numbers[1] + [2]]

        self.assertEqual(self.check_excess(monitor, left, monitor.leave, 45, "car"), ("exits", [2]))
        # It is the same number again after a refusal.
        self.assertEqual(self.check_excess(monitor, left, monitor.leave, 45, "car"), ("exits", [2]))
        self.assertEqual([monitor.enter(50, "car"), monitor.leave(56, "car")], [2, 2])


class NumbersTest(MonitorTest):
    def test_numbers_after_refused_lines(self):
        monitor = Monitor(CAR)
        monitor.raise_floor("exits", 20)
        self.assertIs(type(caught(monitor.enter, 9, "car")), Contradiction)
        self.assertEqual([monitor.enter(30, "car"), monitor.enter(10, "car")], [0, 1])
        self.assertIs(type(caught(monitor.leave, 19, "car")), LateLine)
        self.assertEqual([monitor.leave(36, "car"), monitor.leave(20, "car")], [0, 1])
        self.assertEqual(monitor.snapshot()[1:], ([0, 1], [0, 1]))

    def test_numbers_after_forget(self):
        monitor = filled(CAR, [0, 20], [26, 7], 31)
        self.assertEqual([monitor.news(), monitor.forget()], [[(0, 1), (1, 0)], 2])
        self.assertTrue(same(monitor.snapshot(), (([], [], 0, 31), [], [])))
        self.assertEqual([monitor.enter(50, "car"), monitor.leave(57, "car"), monitor.enter(80, "car")], [2, 2, 3])
        self.assertEqual(monitor.snapshot()[1:], ([2, 3], [2]))
        self.assertEqual(monitor.outcomes(2), ([2], True))

    def test_numbers_after_a_start_with_a_log(self):
        monitor = Monitor(CAR, start=LOG)
        self.assertTrue(same(monitor.snapshot(), (LOG, [0, 1], [0, 1])))
        self.assertEqual([monitor.enter(20, "car"), monitor.leave(27, "car"), monitor.leave(28, "car")], [2, 2, 3])
        self.assertEqual(monitor.news(), [(0, 0)])

    def test_start(self):
        self.assertTrue(same(Monitor(CAR).snapshot(), (([], [], 0, 0), [], [])))
        self.assertTrue(same(Monitor(CAR, start=None).snapshot(), (([], [], 0, 0), [], [])))
        for floors in product((0, 7, 10 ** 9, "closed"), repeat=2):
            log = ([], [], *floors)
            self.assertTrue(same(Monitor(CAR, start=log).snapshot(), (log, [], [])))
        log = (cars(range(1000, 1040)), cars(range(1007, 1047)), 0, 0)
        monitor = Monitor(CAR, start=log)
        self.check_error(GateFull, "gate", "entries", monitor.enter, 1000, "car")
        self.check_error(GateFull, "gate", "exits", monitor.leave, 1000, "car")
        self.assertEqual(monitor.snapshot()[1:], (list(range(40)), list(range(40))))
        with self.assertRaises(TypeError):
            Monitor(CAR, LOG)

    def test_start_with_a_contradictory_log(self):
        self.check_error(Contradiction, "excess", ("entries", [0]), Monitor, CAR, start=(cars([0]), [], 0, "closed"))
        self.check_error(Contradiction, "excess", ("exits", [1]), Monitor, CAR, start=([], cars([9, 3]), 0, 0))

    def test_kind_and_plate_that_are_not_passed(self):
        monitor = Monitor(CAR)
        self.assertEqual([monitor.enter(0), monitor.enter(1, plate="A1"), monitor.enter(2, kind="car")], [0, 1, 2])
        self.assertEqual([monitor.leave(7), monitor.leave(8, "car", "B2"), monitor.leave(9, None, "A1")], [0, 1, 2])
        entries = [(0, None, None), (1, None, "A1"), (2, "car", None)]
        exits = [(7, None, None), (8, "car", "B2"), (9, None, "A1")]
        self.assertTrue(same(monitor.snapshot(), ((entries, exits, 0, 0), [0, 1, 2], [0, 1, 2])))


class NewsTest(MonitorTest):
    def test_first_call_after_a_pair_has_become_certain(self):
        monitor = Monitor(CAR)
        monitor.enter(0, "car")
        self.assertEqual(monitor.news(), [])
        monitor.leave(7, "car")
        self.assertEqual(monitor.news(), [])
        monitor.raise_floor("exits", 10)
        self.assertEqual(monitor.news(), [])
        monitor.raise_floor("exits", 11)
        monitor.enter(30, "car")
        self.assertEqual([monitor.news(), monitor.news()], [[(0, 0)], []])
        monitor.leave(37, "car")
        monitor.close("entries")
        self.assertEqual([monitor.news(), monitor.news()], [[(1, 1)], []])
        monitor.close("exits")
        self.assertEqual(monitor.news(), [])

    def test_reported_once_whatever_is_forgotten(self):
        for places in product((False, True), repeat=3):
            monitor = Monitor(CAR)
            reports, forgotten = [], 0
            for number in range(3):
                monitor.enter(100 * number, "car")
                monitor.leave(100 * number + 7, "car")
                monitor.raise_floor("exits", 100 * number + 50)
                reports.append(monitor.news())
                if places[number]:
                    forgotten += monitor.forget()
            self.assertEqual(reports, [[(number, number)] for number in range(3)])
            self.assertEqual([monitor.news(), forgotten + monitor.forget(), monitor.news()], [[], 3, []])

    def test_order_of_the_news(self):
        monitor = filled(CAR, [200, 0, 100], [107, 7, 207], 300)
        self.assertEqual(monitor.news(), [(0, 2), (1, 1), (2, 0)])

    def test_forget_only_what_was_reported(self):
        monitor = filled(CAR, [0, 100], [7, 107], 200)
        self.assertEqual(monitor.forget(), 0)
        self.assertEqual(monitor.snapshot()[1:], ([0, 1], [0, 1]))
        self.assertEqual(monitor.news(), [(0, 0), (1, 1)])
        monitor.enter(300, "car")
        monitor.leave(307, "car")
        monitor.raise_floor("exits", 400)
        # The third pair is certain, but it is not reported yet.
        self.assertEqual([monitor.forget(), monitor.forget()], [2, 0])
        self.assertEqual(monitor.snapshot()[1:], ([2], [2]))
        self.assertEqual([monitor.news(), monitor.news(), monitor.forget(), monitor.forget()], [[(2, 2)], [], 1, 0])
        self.assertTrue(same(monitor.snapshot(), (([], [], 0, 400), [], [])))

    def test_forgetting_changes_nothing_else(self):
        random = Random(44)
        for _ in range(250):
            kinds = random.choice([TINY, TINY_PAIR])
            first, second = Monitor(kinds), Monitor(kinds)
            for number in range(20):
                name = random.choice(["enter", "leave", "raise_floor", "news", "forget"])
                time, kind = max(0, number // 2 + random.randrange(-2, 4)), random.choice([None, *kinds])
                arguments = {"enter": (time, kind), "leave": (time, kind), "raise_floor": (random.choice(GATES), time)}
                if name == "forget":
                    first.forget()
                elif name == "news":
                    self.assertEqual(first.news(), second.news())
                else:
                    errors = [type(caught(getattr(monitor, name), *arguments[name])) for monitor in (first, second)]
                    self.assertEqual(errors[0], errors[1])
                for entry in first.snapshot()[1]:
                    self.assertEqual(first.outcomes(entry), second.outcomes(entry))

    def test_places_that_forget_makes(self):
        monitor = Monitor(CAR)
        for number in range(40):
            monitor.enter(100 * number, "car")
            monitor.leave(100 * number + 7, "car")
        self.check_error(GateFull, "gate", "entries", monitor.enter, 9000, "car")
        self.check_error(GateFull, "gate", "exits", monitor.leave, 9000, "car")
        monitor.raise_floor("exits", 1000)
        self.assertEqual(monitor.news(), [(number, number) for number in range(10)])
        self.check_error(GateFull, "gate", "entries", monitor.enter, 9000, "car")
        self.assertEqual(monitor.forget(), 10)
        self.assertEqual([monitor.enter(9000 + number, "car") for number in range(10)], list(range(40, 50)))
        self.assertEqual([monitor.leave(9007 + number, "car") for number in range(10)], list(range(40, 50)))
        self.check_error(GateFull, "gate", "entries", monitor.enter, 9000, "car")
        self.check_error(GateFull, "gate", "exits", monitor.leave, 9000, "car")
        self.assertEqual(monitor.snapshot()[1:], (list(range(10, 50)), list(range(10, 50))))

    def test_two_orders_of_the_same_lines(self):
        random = Random(45)
        for _ in range(150):
            kinds = random.choice([TINY, TINY_PAIR])
            times = [random.randrange(8) for _ in range(3)]
            calls = [("enter", time, "car") for time in times]
            calls += [("leave", time + random.choice([1, 2]), "car") for time in times]
            reports = []
            for _ in range(2):
                random.shuffle(calls)
                monitor = Monitor(kinds)
                found = []
                numbers = {"enter": [], "leave": []}
                for name, time, kind in calls:
                    getattr(monitor, name)(time, kind)
                    numbers[name].append(time)
                    found += self.news_by_times(monitor, numbers)
                monitor.close("entries")
                found += self.news_by_times(monitor, numbers)
                monitor.close("exits")
                found += self.news_by_times(monitor, numbers)
                reports.append(sorted(found))
            self.assertEqual(reports[0], reports[1])

    def news_by_times(self, monitor, numbers):
        """The news, where the lines are named by their times instead of by their numbers."""
        return [(numbers["enter"][entry], numbers["leave"][leaving]) for entry, leaving in monitor.news()]


class OutcomesTest(MonitorTest):
    def test_unknown_lines(self):
        monitor = filled(CAR, [0, 20], [7], 11)
        monitor.news()
        self.assertEqual(monitor.outcomes(0), ([0], False))
        monitor.forget()
        for number in (0, 2, 3, 40, -1, -2, 10 ** 9, 10 ** 5000):
            self.check_error(UnknownLine, "number", number, monitor.outcomes, number)
        self.assertEqual(monitor.outcomes(1), ([], True))
        self.check_error(UnknownLine, "number", 0, Monitor(CAR).outcomes, 0)

    def test_outcomes(self):
        monitor = Monitor(CAR)
        for time in (0, 1, 50):
            monitor.enter(time, "car")
        for time in (57, 8, 7, 6):
            monitor.leave(time, "car")
        for floor, may_be_open in ((0, [True, True, True]), (11, [False, True, True]), (12, [False, False, True])):
            monitor.raise_floor("exits", floor)
            found = [monitor.outcomes(number) for number in range(3)]
            self.assertTrue(same(found, list(zip([[1, 2, 3], [1, 2, 3], [0]], may_be_open))))

    def test_numbers_of_exits_behind_forgotten_ones(self):
        monitor = filled(CAR, [0, 50, 51], [7, 57, 58], 11)
        monitor.news()
        self.assertEqual(monitor.forget(), 1)
        self.assertEqual([monitor.outcomes(1), monitor.outcomes(2)], [([1, 2], True), ([1, 2], True)])


class ForkTest(MonitorTest):
    def test_forks_are_independent(self):
        monitor = filled(CAR, [0, 20], [7], 11)
        self.assertEqual(monitor.news(), [(0, 0)])
        first, second = monitor.fork(), monitor.fork()
        third = first.fork()
        before = look(monitor)
        for other in (first, second, third):
            self.assertIs(type(other), Monitor)
            self.assertTrue(same(look(other), before))
        first.forget()
        self.assertEqual(first.enter(30, "car"), 2)
        second.leave(26, "car")
        second.close("entries")
        second.close("exits")
        self.assertEqual([second.news(), second.forget()], [[(1, 1)], 2])
        self.assertTrue(same(look(third), before) and same(look(monitor), before))
        third.raise_floor("entries", 25)
        self.assertEqual(first.snapshot()[0], (cars([20, 30]), [], 0, 11))
        self.assertEqual(second.snapshot()[0], ([], [], "closed", "closed"))
        self.assertEqual(third.snapshot()[0], (cars([0, 20]), cars([7]), 25, 11))
        self.assertTrue(same(look(monitor), before))
        monitor.close("entries")
        self.assertEqual(third.snapshot()[0][2], 25)

    def test_forks_keep_numbers_and_reports(self):
        monitor = filled(CAR, [0, 20, 50], [7, 26], 11)
        self.assertEqual([monitor.news(), monitor.forget()], [[(0, 0)], 1])
        monitor.raise_floor("exits", 31)
        self.assertEqual(monitor.fork().news(), [(1, 1)])
        self.assertEqual(monitor.news(), [(1, 1)])
        fork = monitor.fork()
        self.assertEqual(fork.news(), [])
        self.assertEqual([fork.enter(60, "car"), fork.leave(56, "car")], [3, 2])
        self.check_error(UnknownLine, "number", 0, fork.outcomes, 0)
        self.assertEqual([fork.forget(), fork.fork().forget()], [1, 0])
        self.assertEqual(monitor.forget(), 1)
        self.assertEqual(fork.snapshot()[1:], ([2, 3], [2]))

    def test_fork_of_an_empty_monitor(self):
        fork = Monitor(CAR).fork()
        self.assertEqual([fork.enter(0, "car"), fork.leave(7, "car"), fork.fork().enter(5)], [0, 0, 1])


class CopiesTest(MonitorTest):
    def test_kinds(self):
        kinds = {"car": (5, 10), "bus": (8, 20)}
        monitor = Monitor(kinds)
        monitor.enter(0, "car")
        fork = monitor.fork()
        before = look(monitor)
        kinds["car"] = (1, 1)
        del kinds["bus"]
        kinds["van"] = (0, 0)
        for other in (monitor, fork):
            self.assertTrue(same(look(other), before))
            self.assertEqual([other.leave(7, "car"), other.enter(1, "bus"), other.leave(14)], [0, 1, 1])
            self.assertEqual([other.outcomes(0), other.outcomes(1)], [([0], True), ([1], True)])

    def test_log_that_was_passed(self):
        log = deepcopy(LOG)
        kinds = dict(CAR)
        monitor = Monitor(kinds, start=log)
        self.assertTrue(same((kinds, log), (CAR, LOG)))
        before = look(monitor)
        log[0].clear()
        log[1].append((50, "car", None))
        self.assertTrue(same(look(monitor), before))
        log = deepcopy(LOG)
        monitor = Monitor(CAR, start=log)
        monitor.enter(50, "car")
        monitor.leave(57, "car")
        monitor.news()
        monitor.forget()
        self.assertTrue(same(log, LOG))

    def test_returned_lists(self):
        monitor = Monitor(CAR, start=LOG)
        before = look(monitor)
        wreck(look(monitor))
        wreck(monitor.snapshot())
        wreck([monitor.outcomes(0), monitor.outcomes(1)])
        self.assertTrue(same(look(monitor), before))
        found = monitor.news()
        wreck(found)
        self.assertEqual([monitor.news(), monitor.forget()], [[], 1])

    def test_returned_excess(self):
        monitor = filled(CAR, [0], [])
        for _ in range(2):
            error = caught(monitor.close, "exits")
            self.assertTrue(same(error.excess, ("entries", [0])))
            wreck(error.excess)


class InterfaceTest(unittest.TestCase):
    def test_methods_are_defined_in_the_class(self):
        self.assertEqual(Monitor.__module__, "gatepairs.monitor")
        for name in ("enter", "leave", "raise_floor", "close", "news", "outcomes", "forget", "snapshot", "fork"):
            self.assertIn(name, vars(Monitor))

    def test_arguments_by_name(self):
        monitor = Monitor(kinds=CAR, start=LOG)
        self.assertEqual(monitor.enter(time=50, kind="car", plate="A1"), 2)
        self.assertEqual(monitor.leave(time=57, kind="car", plate="A1"), 2)
        self.assertIs(monitor.raise_floor(gate="exits", floor=12), None)
        self.assertEqual(monitor.outcomes(entry_number=1), ([1], True))
        self.assertIs(monitor.close(gate="entries"), None)


if __name__ == "__main__":
    unittest.main()
