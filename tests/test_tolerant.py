import unittest
from itertools import product
from random import Random

from gatepairs.errors import Contradiction, GateError, GateFull, LateLine, LowerFloor, UnknownLine
from gatepairs.graded import is_graded_repair
from gatepairs.monitor import Monitor
from gatepairs.tolerant import Tolerant
from tests.case import Case, wreck
from tests.loose import Loose, has_line
from tests.samples import CAR, GATES, cars, same

TABLES = [{"car": (1, 2)}, {"car": (1, 2), "van": (2, 3)}, {"car": (0, 3)}, {"van": (3, 3), "car": (1, 4)}]
CHANGES = ("enter", "leave", "raise_floor", "close", "trust_anew", "take_back")


def caught(function, *arguments, **named):
    """The error that the call raises, or None."""
    try:
        function(*arguments, **named)
    except GateError as error:
        return error
    return None


def look(tolerant):
    """All that can be seen of a tolerant monitor. Its news are asked of a fork, so that they stay new."""
    snapshot = tolerant.snapshot()
    lines = [(gate, number) for gate, numbers in zip(GATES, snapshot[2:]) for number in numbers]
    lines = [(gate, number, tolerant.line(gate, number)) for gate, number in lines]
    pairs = [(pair, tolerant.pair(*pair)) for pair in product(*snapshot[2:])]
    outcomes = [tolerant.outcomes(number) for number in snapshot[2]]
    told = tolerant.lacks(), tolerant.best(), tolerant.certain(), tolerant.fork().news()
    return snapshot, lines, pairs, outcomes, told


def ignored(tolerant):
    """The lines that the kept best repair ignores, as tuples (gate, number)."""
    return {(gate, number) for gate, numbers in zip(GATES, tolerant.best()) for number in numbers}


def placed(value, numbers):
    """A graded repair by places, from one by the numbers of the lines."""
    places = [{number: place for place, number in enumerate(own)} for own in numbers]
    return (
        *([places[gate][number] for number in value[gate]] for gate in range(2)),
        [(places[0][entry], places[1][leaving]) for entry, leaving in value[2]],
        *([[places[gate][number] for number in shortage] for shortage in value[3 + gate]] for gate in range(2)),
    )


class Model:
    """What the document says of a tolerant monitor, from all loose worlds. It is slow."""

    def __init__(self, kinds):
        self.kinds = dict(kinds)
        # For each gate, tuples (number, line, trust).
        self.kept = [[], []]
        self.counts = [0, 0]
        self.floors = [0, 0]
        self.told = []

    def log(self):
        return (*([line for _, line, _ in kept] for kept in self.kept), *self.floors)

    def trusts(self):
        return tuple([trust for _, _, trust in kept] for kept in self.kept)

    def numbers(self):
        return [[number for number, _, _ in kept] for kept in self.kept]

    def snapshot(self):
        return self.log(), self.trusts(), *self.numbers()

    def loose(self):
        return Loose(self.kinds, self.log(), self.trusts())

    def add(self, gate, time, kind=None, plate=None, trust=5):
        place = GATES.index(gate)
        if self.floors[place] == "closed" or time < self.floors[place]:
            return LateLine, time
        if len(self.kept[place]) >= 40:
            return GateFull, gate
        self.kept[place].append((self.counts[place], (time, kind, plate), trust))
        self.counts[place] += 1
        return self.counts[place] - 1

    def enter(self, time, kind=None, plate=None, trust=5):
        return self.add("entries", time, kind, plate, trust)

    def leave(self, time, kind=None, plate=None, trust=5):
        return self.add("exits", time, kind, plate, trust)

    def raise_floor(self, gate, floor):
        place = GATES.index(gate)
        if self.floors[place] == "closed" or self.floors[place] > floor:
            return LowerFloor, floor
        self.floors[place] = floor
        return None

    def close(self, gate):
        self.floors[GATES.index(gate)] = "closed"

    def trust_anew(self, gate, number, trust):
        place = GATES.index(gate)
        if number not in self.numbers()[place]:
            return UnknownLine, number
        self.kept[place] = [(n, line, trust if n == number else old) for n, line, old in self.kept[place]]
        return None

    def take_back(self, gate, number):
        place = GATES.index(gate)
        if number not in self.numbers()[place]:
            return UnknownLine, number
        self.kept[place] = [part for part in self.kept[place] if part[0] != number]
        return None

    def lacks(self):
        return self.loose().lack_lists

    def line(self, gate, number):
        numbers = self.numbers()[GATES.index(gate)]
        if number not in numbers:
            return UnknownLine, number
        return self.loose().line_word(gate, numbers.index(number))

    def pair(self, entry, leaving):
        numbers = self.numbers()
        for number, own in zip((entry, leaving), numbers):
            if number not in own:
                return UnknownLine, number
        return self.loose().pair_word((numbers[0].index(entry), numbers[1].index(leaving)))

    def worlds(self):
        """All best worlds, by the numbers of the lines."""
        entries, exits = self.numbers()
        return [[(entries[entry], exits[leaving]) for entry, leaving in world] for world in self.loose().best]

    def outcomes(self, entry):
        if entry not in self.numbers()[0]:
            return UnknownLine, entry
        worlds = self.worlds()
        exits = {leaving for world in worlds for first, leaving in world if first == entry}
        return sorted(exits), any(not has_line(world, "entries", entry) for world in worlds)

    def certain(self):
        worlds = self.worlds()
        return [pair for pair in worlds[0] if all(pair in world for world in worlds)]

    def news(self):
        certain, told = self.certain(), self.told
        self.told = certain
        return [pair for pair in certain if pair not in told], [pair for pair in told if pair not in certain]

    def repairs(self):
        """All best repairs, as sets of tuples (gate, number)."""
        numbers = dict(zip(GATES, self.numbers()))
        return [
            {(gate, numbers[gate][place]) for gate, places in zip(GATES, repair) for place in places}
            for repair in self.loose().best_repairs
        ]


class TolerantCase(Case):
    def check_error(self, kind, attribute, value, function, *arguments, **named):
        error = caught(function, *arguments, **named)
        self.assertIs(type(error), kind)
        self.assertTrue(same(vars(error), {attribute: value}))

    def check_best(self, tolerant, kinds):
        """What best returns is a graded repair of the log, by the numbers of the lines."""
        log, trusts, *numbers = tolerant.snapshot()
        value = self.result(tolerant.best)
        self.assertIs(is_graded_repair(kinds, log, trusts, placed(value, numbers)), True)
        return value


class ExampleTest(TolerantCase):
    def test_example(self):
        tolerant = Tolerant(CAR)
        numbers = [tolerant.enter(0, "car", trust=3), tolerant.enter(1, "car", trust=8), tolerant.leave(6, "car")]
        self.assertTrue(same(numbers, [0, 1, 0]))
        self.assertIs(tolerant.close("exits"), None)
        found = [tolerant.lacks()[0][:4], tolerant.line("entries", 0), tolerant.certain(), tolerant.news()]
        self.assertIs(tolerant.take_back("entries", 1), None)
        found += [tolerant.line("entries", 0), tolerant.news(), tolerant.news()]
        expected = [[1, 1, 1, 0], "ignored", [(1, 0)], ([(1, 0)], []), "paired", ([(0, 0)], [(1, 0)]), ([], [])]
        self.assertTrue(same(found, expected))


class HistoryTest(TolerantCase):
    """Random calls, compared with the model."""

    def arguments(self, random, name, clock):
        """Positional and named arguments for the call."""
        gate = random.choice(GATES)
        if name in ("enter", "leave"):
            time = max(0, clock // 2 + random.randrange(-3, 4))
            kind, plate = random.choice([None, "car", "car"]), random.choice([None, None, None, "A1", "B2"])
            return (time, kind, plate), random.choice([{}, {"trust": random.choice([1, 4, 5, 5, 9])}])
        if name == "raise_floor":
            return (gate, max(0, clock // 2 + random.randrange(-2, 4))), {}
        if name == "close":
            return (gate,), {}
        number = random.randrange(-1, 6)
        if name == "trust_anew":
            return (gate, number, random.randint(1, 9)), {}
        if name in ("take_back", "line"):
            return (gate, number), {}
        if name == "pair":
            return (number, random.randrange(-1, 6)), {}
        return ((number,) if name == "outcomes" else ()), {}

    def run_history(self, random, kinds):
        tolerant, model = Tolerant(kinds), Model(kinds)
        outcomes = []
        names = ["enter", "leave"] * 6 + ["raise_floor"] * 3 + ["trust_anew"] * 2 + ["take_back"] * 3
        names += ["lacks", "best", "line", "pair", "outcomes", "certain", "news", "news", "snapshot"]
        for clock in range(random.randrange(8, 20)):
            name = random.choice(names + (["close"] if random.randrange(3) == 0 else []))
            arguments, named = self.arguments(random, name, clock)
            if max(map(len, model.kept)) > 3 and name in ("enter", "leave"):
                continue
            if name == "best":
                self.check_best(tolerant, kinds)
                continue
            kept, before = ignored(tolerant), look(tolerant)
            expected = getattr(model, name)(*arguments, **named)
            if isinstance(expected, tuple) and isinstance(expected[0], type):
                error = caught(getattr(tolerant, name), *arguments, **named)
                self.assertTrue(same((type(error), *vars(error).values()), expected))
                self.assertTrue(same(look(tolerant), before))
                outcomes.append(expected[0])
            else:
                self.assertTrue(same(getattr(tolerant, name)(*arguments, **named), expected), name)
                self.check_kept_repair(tolerant, model, name, arguments, kept, outcomes)
            if random.randrange(5) == 0:
                tolerant = tolerant.fork()
        self.check_all(tolerant, model)
        return outcomes

    def check_kept_repair(self, tolerant, model, name, arguments, before, outcomes):
        """Point 33: the kept best repair differs from the one before as little as possible."""
        now = ignored(tolerant)
        if name not in CHANGES:
            self.assertEqual(now, before)
            return
        gone = {arguments[:2]} if name == "take_back" else set()
        repairs = model.repairs()
        self.assertIn(now, repairs)
        change = (before ^ now) - gone
        self.assertEqual(len(change), min(len((before ^ repair) - gone) for repair in repairs))
        added, left = now - before, before - now - gone
        outcomes.append((name, len(added), len(left)))
        own = {"enter": "entries", "leave": "exits"}.get(name, arguments[0])
        other = GATES[1 - GATES.index(own)]
        if name in ("enter", "leave"):
            self.assertTrue(not left and len(added) <= 1 and all(gate == own for gate, _ in added))
        elif name == "trust_anew":
            self.assertTrue(len(added) == len(left) <= 1 and all(gate == own for gate, _ in change))
        elif name == "take_back":
            self.assertLessEqual(len(change), 1)
            self.assertTrue(all(gate == own for gate, _ in left) and all(gate == other for gate, _ in added))
        else:
            self.assertTrue(not left and all(gate == other for gate, _ in added))

    def check_all(self, tolerant, model):
        """Each answer of the monitor is that of the model."""
        self.check_best(tolerant, model.kinds)
        for name in ("snapshot", "lacks", "certain", "news", "news"):
            self.assertTrue(same(getattr(tolerant, name)(), getattr(model, name)()), name)
        entries, exits = model.numbers()
        for number in entries:
            self.assertTrue(same(tolerant.outcomes(number), model.outcomes(number)))
        for gate, numbers in zip(GATES, (entries, exits)):
            for number in numbers:
                self.assertEqual(tolerant.line(gate, number), model.line(gate, number))
        for pair in product(entries, exits):
            self.assertEqual(tolerant.pair(*pair), model.pair(*pair))

    def test_histories(self):
        random = Random(90)
        outcomes = []
        for _ in range(1200):
            outcomes += self.run_history(random, random.choice(TABLES))
        for kind in (LateLine, LowerFloor, UnknownLine):
            self.assertGreater(outcomes.count(kind), 50)
        kinds = list(product(("enter", "leave"), (0, 1), [0])) + [("trust_anew", 0, 0)]
        kinds += list(product(("raise_floor", "close"), (0, 1), [0])) + [("close", 2, 0)]
        kinds += [("take_back", 0, 0)]
        for kind in kinds:
            self.assertGreater(outcomes.count(kind), 10, kind)

    def test_crowds(self):
        # Many lines lack partners, so that it matters which of them are trusted more.
        random = Random(97)
        outcomes = []
        for _ in range(250):
            kinds = random.choice(TABLES)
            tolerant, model = Tolerant(kinds), Model(kinds)
            calls = [("enter", random.randrange(3)) for _ in range(4)]
            calls += [("leave", random.randrange(1, 4)) for _ in range(3)]
            random.shuffle(calls)
            for name, time in calls:
                trust = random.choice([4, 5, 6])
                getattr(tolerant, name)(time, None, trust=trust)
                getattr(model, name)(time, None, trust=trust)
            for gate in GATES:
                tolerant.close(gate)
                model.close(gate)
            for number in range(8):
                gate = random.choice(GATES)
                name = "take_back" if number > 5 else "trust_anew"
                arguments = (gate, random.randrange(3), random.choice([4, 5, 6]))[: 2 if number > 5 else 3]
                kept = ignored(tolerant)
                found = caught(getattr(tolerant, name), *arguments)
                getattr(model, name)(*arguments)
                if found is None:
                    self.check_kept_repair(tolerant, model, name, arguments, kept, outcomes)
            self.check_all(tolerant, model)
        kinds = [("trust_anew", 0, 0), ("trust_anew", 1, 1)]
        for kind in [*kinds, ("take_back", 0, 0), ("take_back", 0, 1), ("take_back", 1, 0)]:
            self.assertGreater(outcomes.count(kind), 20, kind)


class GrowthTest(TolerantCase):
    """Point 34, and what point 35 says of news and of a monitor of point 20."""

    def grow(self, random, monitors, clock):
        """Let each of the monitors do the same that logs a line, raises a floor or closes a gate. Returns its words."""
        names = ["enter"] * 4 + ["leave"] * 4 + ["raise_floor"] * 3
        name = random.choice(names if random.randrange(4) else [*names, "close"])
        gate = random.choice(GATES)
        time = max(0, clock // 2 + random.randrange(-2, 4))
        arguments = {"close": (gate,), "raise_floor": (gate, time)}.get(name, (time, "car"))
        if name in ("enter", "leave"):
            gate = "entries" if name == "enter" else "exits"
        trust = {"trust": random.randint(1, 9)} if name in ("enter", "leave") else {}
        errors = []
        for monitor in monitors:
            named = trust if isinstance(monitor, Tolerant) else {}
            errors.append(caught(getattr(monitor, name), *arguments, **named))
        return name, gate, errors

    def test_lacks(self):
        random = Random(91)
        changes = []
        for _ in range(250):
            tolerant = Tolerant(random.choice(TABLES))
            for clock in range(16):
                before, words = tolerant.lacks(), look(tolerant)
                name, gate, _ = self.grow(random, [tolerant], clock)
                now = tolerant.lacks()
                rises = [[one - other for one, other in zip(*lists)] for lists in zip(now, before)]
                own, other = rises if gate == "entries" else rises[::-1]
                if name in ("enter", "leave"):
                    many = sum(own)
                    self.assertEqual((own, other), ([1] * many + [0] * (9 - many), [0] * 9))
                    changes.append((name, many > 0))
                else:
                    self.assertEqual((own, min(other) >= 0), ([0] * 9, True))
                    changes.append((name, sum(other) > 0))
                if now == before:
                    self.check_words_stay(tolerant, words)
        for kind in product(("enter", "leave", "raise_floor", "close"), (False, True)):
            self.assertGreater(changes.count(kind), 15, kind)

    def check_words_stay(self, tolerant, words):
        for gate, number, word in words[1]:
            if word in ("paired", "ignored"):
                self.assertEqual(tolerant.line(gate, number), word)
        for pair, word in words[2]:
            if word in ("certain", "impossible"):
                self.assertEqual(tolerant.pair(*pair), word)

    def test_ignored_lines_taken_back(self):
        random = Random(92)
        many = 0
        for _ in range(150):
            tolerant = Tolerant(random.choice(TABLES))
            for clock in range(18):
                self.grow(random, [tolerant], clock)
            pairs = look(tolerant)[2]
            lines = sorted(ignored(tolerant))
            random.shuffle(lines)
            many += len(lines)
            for gate, number in lines:
                before = tolerant.lacks()
                tolerant.take_back(gate, number)
                now = tolerant.lacks()
                own = GATES.index(gate)
                self.assertEqual(now[own][0], before[own][0] - 1)
                self.assertEqual(now[1 - own], before[1 - own])
            log, _, *numbers = tolerant.snapshot()
            self.assertEqual(tolerant.lacks(), ([0] * 9, [0] * 9))
            Monitor(tolerant.kinds, start=log)
            for (entry, leaving), word in pairs:
                if entry in numbers[0] and leaving in numbers[1] and word != "undecided":
                    self.assertEqual(tolerant.pair(entry, leaving), word)
        self.assertGreater(many, 300)

    def test_monitor_of_point_20(self):
        random = Random(93)
        refused = accepted = 0
        for _ in range(400):
            kinds = random.choice(TABLES)
            tolerant, monitor = Tolerant(kinds), Monitor(kinds)
            for clock in range(18):
                _, _, errors = self.grow(random, [tolerant, monitor], clock)
                if isinstance(errors[1], Contradiction):
                    self.assertIs(errors[0], None)
                    self.assertGreater(tolerant.lacks()[0][0] + tolerant.lacks()[1][0], 0)
                    refused += 1
                    break
                self.assertIs(type(errors[0]), type(errors[1]))
                self.assertEqual(tolerant.lacks(), ([0] * 9, [0] * 9))
                self.assertEqual(tolerant.snapshot()[0], monitor.snapshot()[0])
                self.assertEqual(tolerant.certain(), Monitor(kinds, start=monitor.snapshot()[0]).news())
                for number in monitor.snapshot()[1]:
                    self.assertEqual(tolerant.outcomes(number), monitor.outcomes(number))
                accepted += 1
        self.assertTrue(refused > 200 and accepted > 1000)

    def test_news_add_up(self):
        random = Random(94)
        reports = [0, 0]
        for _ in range(400):
            tolerant, pairs = Tolerant(random.choice(TABLES)), set()
            for clock in range(20):
                self.grow(random, [tolerant], clock)
                if random.randrange(4) == 0:
                    gate, number = random.choice(GATES), random.randrange(4)
                    caught(tolerant.take_back, gate, number)
                if random.randrange(4) == 0:
                    caught(tolerant.trust_anew, random.choice(GATES), random.randrange(4), random.randint(1, 9))
                if random.randrange(2):
                    new, old = tolerant.news()
                    self.assertTrue(same((new, old), (sorted(new), sorted(old))))
                    self.assertTrue(not pairs & set(new) and set(old) <= pairs)
                    pairs = (pairs | set(new)) - set(old)
                    self.assertEqual(sorted(pairs), tolerant.certain())
                    self.assertEqual(tolerant.news(), ([], []))
                    reports = [reports[0] + len(new), reports[1] + len(old)]
        self.assertTrue(reports[0] > 300 and reports[1] > 100, reports)


class LinesTest(TolerantCase):
    def test_late_lines(self):
        for gate, name, other in (("entries", "enter", "leave"), ("exits", "leave", "enter")):
            tolerant = Tolerant(CAR)
            tolerant.raise_floor(gate, 20)
            for time in (0, 19):
                self.check_error(LateLine, "time", time, getattr(tolerant, name), time)
                self.check_error(LateLine, "time", time, getattr(tolerant, name), time, "car", "A1", trust=9)
            self.assertEqual([getattr(tolerant, name)(20), getattr(tolerant, name)(25)], [0, 1])
            self.assertEqual(getattr(tolerant, other)(0), 0)
            tolerant.close(gate)
            for time in (0, 20, 10 ** 9):
                self.check_error(LateLine, "time", time, getattr(tolerant, name), time)
            self.assertEqual(getattr(tolerant, other)(0), 1)

    def test_full_gates(self):
        for gate, name, other in (("entries", "enter", "leave"), ("exits", "leave", "enter")):
            tolerant = Tolerant(CAR)
            tolerant.raise_floor(gate, 20)
            for number in range(40):
                self.assertEqual(getattr(tolerant, name)(100 + number), number)
            before = tolerant.snapshot(), tolerant.best()
            self.check_error(GateFull, "gate", gate, getattr(tolerant, name), 100)
            self.check_error(GateFull, "gate", gate, getattr(tolerant, name), 20, "car", trust=9)
            # A late line is refused as such.
            self.check_error(LateLine, "time", 19, getattr(tolerant, name), 19)
            self.assertTrue(same((tolerant.snapshot(), tolerant.best()), before))
            self.assertEqual(getattr(tolerant, other)(107), 0)
            # A line that is taken back makes room for one more, with a new number.
            tolerant.take_back(gate, 17)
            self.assertEqual(getattr(tolerant, name)(90), 40)
            self.check_error(GateFull, "gate", gate, getattr(tolerant, name), 100)
            for number in (0, 40, 39):
                tolerant.take_back(gate, number)
            self.assertEqual([getattr(tolerant, name)(200 + number) for number in range(3)], [41, 42, 43])
            self.check_error(GateFull, "gate", gate, getattr(tolerant, name), 100)
            kept = [*range(1, 17), *range(18, 39), 41, 42, 43]
            self.assertEqual(tolerant.snapshot()[2 + GATES.index(gate)], kept)

    def test_numbers_after_lines_that_were_taken_back(self):
        tolerant = Tolerant(CAR)
        for number in range(5):
            self.assertEqual(tolerant.enter(10 * number, "car"), number)
            self.assertIs(tolerant.take_back("entries", number), None)
            self.assertEqual(tolerant.snapshot(), (([], [], 0, 0), ([], []), [], []))
        self.assertEqual([tolerant.enter(0), tolerant.enter(1), tolerant.leave(7), tolerant.leave(8)], [5, 6, 0, 1])
        tolerant.take_back("entries", 6)
        tolerant.take_back("exits", 0)
        self.assertEqual([tolerant.enter(2), tolerant.leave(9)], [7, 2])
        self.assertEqual(tolerant.snapshot()[2:], ([5, 7], [1, 2]))
        self.assertEqual([tolerant.outcomes(5), tolerant.outcomes(7)], [([1, 2], True), ([1, 2], True)])

    def test_lines_that_cannot_be(self):
        # Nothing is refused because of a contradiction.
        tolerant = Tolerant(CAR)
        tolerant.raise_floor("exits", 100)
        self.assertEqual([tolerant.enter(0, "car"), tolerant.enter(1, "car", trust=9)], [0, 1])
        tolerant.raise_floor("entries", 200)
        self.assertEqual([tolerant.leave(100, trust=2), tolerant.leave(204)], [0, 1])
        tolerant.close("exits")
        tolerant.close("entries")
        self.assertEqual(tolerant.lacks(), ([2, 2, 2, 2, 2, 1, 1, 1, 1], [2, 2, 1, 1, 1, 0, 0, 0, 0]))
        self.assertEqual(self.check_best(tolerant, CAR)[:3], ([0, 1], [0, 1], []))
        self.assertEqual([tolerant.line("entries", 0), tolerant.outcomes(0)], ["ignored", ([], True)])

    def test_trusts(self):
        tolerant = Tolerant(CAR)
        tolerant.enter(0)
        tolerant.enter(1, trust=1)
        tolerant.leave(7, trust=9)
        tolerant.leave(8, "car", "A1")
        self.assertTrue(same(tolerant.snapshot()[1], ([5, 1], [9, 5])))
        self.assertIs(tolerant.trust_anew("entries", 0, 7), None)
        self.assertIs(tolerant.trust_anew("exits", 1, 2), None)
        self.assertTrue(same(tolerant.snapshot()[1], ([7, 1], [9, 2])))
        for name in ("enter", "leave"):
            with self.assertRaises(TypeError):
                getattr(tolerant, name)(0, "car", None, 7)

    def test_kind_and_plate_that_are_not_passed(self):
        tolerant = Tolerant(CAR)
        self.assertEqual([tolerant.enter(0), tolerant.enter(1, plate="A1"), tolerant.enter(2, kind="car")], [0, 1, 2])
        self.assertEqual([tolerant.leave(7), tolerant.leave(8, "car", "B2"), tolerant.leave(9, None, "A1")], [0, 1, 2])
        entries = [(0, None, None), (1, None, "A1"), (2, "car", None)]
        exits = [(7, None, None), (8, "car", "B2"), (9, None, "A1")]
        expected = ((entries, exits, 0, 0), ([5, 5, 5], [5, 5, 5]), [0, 1, 2], [0, 1, 2])
        self.assertTrue(same(tolerant.snapshot(), expected))

    def test_empty_monitor(self):
        tolerant = Tolerant(CAR)
        self.assertTrue(same(tolerant.snapshot(), (([], [], 0, 0), ([], []), [], [])))
        self.assertTrue(same(tolerant.best(), ([], [], [], [[]] * 9, [[]] * 9)))
        self.assertTrue(same(tolerant.lacks(), ([0] * 9, [0] * 9)))
        self.assertTrue(same([tolerant.certain(), tolerant.news()], [[], ([], [])]))


class FloorsTest(TolerantCase):
    def test_lower_floors(self):
        for gate in GATES:
            tolerant = Tolerant(CAR)
            self.assertIs(tolerant.raise_floor(gate, 0), None)
            self.assertIs(tolerant.raise_floor(gate, 20), None)
            for floor in (0, 19):
                self.check_error(LowerFloor, "floor", floor, tolerant.raise_floor, gate, floor)
            self.assertIs(tolerant.raise_floor(gate, 20), None)
            self.assertIs(tolerant.raise_floor(gate, 10 ** 9), None)
            self.assertEqual(tolerant.snapshot()[0][2 + GATES.index(gate)], 10 ** 9)
            self.assertIs(tolerant.close(gate), None)
            for floor in (0, 20, 10 ** 9):
                self.check_error(LowerFloor, "floor", floor, tolerant.raise_floor, gate, floor)
            before = look(tolerant)
            self.assertIs(tolerant.close(gate), None)
            self.assertTrue(same(look(tolerant), before))
            self.assertEqual(tolerant.snapshot()[0][2:], ("closed", 0) if gate == "entries" else (0, "closed"))

    def test_floors_make_must_lines(self):
        tolerant = Tolerant(CAR)
        tolerant.enter(0, "car")
        for floor, word, count in ((10, "open", 0), (11, "ignored", 1), (12, "ignored", 1)):
            tolerant.raise_floor("exits", floor)
            self.assertEqual(tolerant.line("entries", 0), word)
            self.assertEqual(tolerant.lacks(), ([count] * 5 + [0] * 4, [0] * 9))
            self.assertEqual(tolerant.best()[0], [0] * count)


class UnknownLinesTest(TolerantCase):
    def test_unknown_lines(self):
        tolerant = Tolerant(CAR)
        tolerant.enter(0, "car")
        tolerant.enter(1, "car")
        tolerant.enter(2, "car")
        tolerant.leave(7, "car")
        tolerant.leave(8, "car")
        tolerant.take_back("entries", 1)
        tolerant.take_back("exits", 0)
        before = look(tolerant)
        never = (3, 40, -1, -2, -3, 10 ** 9, 10 ** 5000, -(10 ** 5000))
        for gate, gone in (("entries", 1), ("exits", 0)):
            for number in (gone, *never):
                self.check_error(UnknownLine, "number", number, tolerant.line, gate, number)
                self.check_error(UnknownLine, "number", number, tolerant.take_back, gate, number)
                for trust in (1, 9):
                    self.check_error(UnknownLine, "number", number, tolerant.trust_anew, gate, number, trust)
        for number in (1, *never):
            self.check_error(UnknownLine, "number", number, tolerant.outcomes, number)
            # The first number that no line has.
            for other in (0, 1, 7, -5):
                self.check_error(UnknownLine, "number", number, tolerant.pair, number, other)
        for number in (0, *never):
            for entry in (0, 2):
                self.check_error(UnknownLine, "number", number, tolerant.pair, entry, number)
        self.assertTrue(same(look(tolerant), before))
        self.assertEqual([tolerant.pair(0, 1), tolerant.pair(2, 1)], ["undecided", "undecided"])

    def test_errors_change_nothing(self):
        tolerant = Tolerant(CAR)
        tolerant.enter(20, "car", trust=3)
        tolerant.enter(21, "car", trust=8)
        tolerant.leave(27, "car")
        tolerant.raise_floor("entries", 10)
        tolerant.close("exits")
        tolerant.news()
        before = look(tolerant)
        calls = [
            (LateLine, lambda: tolerant.enter(9)),
            (LateLine, lambda: tolerant.leave(30)),
            (LowerFloor, lambda: tolerant.raise_floor("entries", 9)),
            (LowerFloor, lambda: tolerant.raise_floor("exits", 10 ** 9)),
            (UnknownLine, lambda: tolerant.take_back("entries", 2)),
            (UnknownLine, lambda: tolerant.trust_anew("exits", 1, 9)),
            (UnknownLine, lambda: tolerant.line("entries", -1)),
            (UnknownLine, lambda: tolerant.pair(0, 1)),
            (UnknownLine, lambda: tolerant.outcomes(2)),
        ]
        for kind, call in calls:
            self.assertIs(type(caught(call)), kind)
            self.assertTrue(same(look(tolerant), before))
        self.assertEqual(tolerant.enter(30), 2)


class KeptRepairTest(TolerantCase):
    """Point 33 for calls where several repairs would be as good."""

    def crowd(self, count, trust=5):
        """A monitor with this many entries that fit one exit. Both gates are closed but for the entries."""
        tolerant = Tolerant(CAR)
        tolerant.leave(7, "car")
        for _ in range(count):
            tolerant.enter(0, "car", trust=trust)
        tolerant.close("exits")
        return tolerant

    def test_lines_that_come(self):
        tolerant = self.crowd(2)
        for count in range(2, 12):
            before = ignored(tolerant)
            tolerant.enter(0, "car", trust=5)
            self.assertTrue(before < ignored(tolerant))
            self.assertEqual(len(ignored(tolerant)), count)

    def test_what_was_ignored_stays_ignored(self):
        # Whichever entry is ignored, it stays so while other lines come, until it is trusted more than the other one.
        for first in (0, 1):
            tolerant = self.crowd(2)
            tolerant.trust_anew("entries", first, 4)
            self.assertEqual(ignored(tolerant), {("entries", first)})
            tolerant.trust_anew("entries", first, 5)
            self.assertEqual(ignored(tolerant), {("entries", first)})
            tolerant.enter(500, "car")
            tolerant.raise_floor("entries", 600)
            fork = tolerant.fork()
            self.assertEqual(ignored(fork), {("entries", first), ("entries", 2)})
            tolerant.take_back("entries", 2)
            self.assertEqual(ignored(tolerant), {("entries", first)})
            tolerant.trust_anew("entries", first, 6)
            self.assertEqual(ignored(tolerant), {("entries", 1 - first)})
            tolerant.trust_anew("entries", first, 5)
            self.assertEqual(ignored(tolerant), {("entries", 1 - first)})
            # The fork goes on from where it was forked.
            fork.trust_anew("entries", 1 - first, 5)
            self.assertEqual(ignored(fork), {("entries", first), ("entries", 2)})

    def test_lines_taken_back(self):
        for first in range(4):
            tolerant = self.crowd(4)
            before = ignored(tolerant)
            tolerant.take_back("entries", first)
            now = ignored(tolerant)
            self.assertEqual(len(now), 2)
            self.assertTrue(now < before)
            tolerant.take_back("exits", 0)
            self.assertTrue(now < ignored(tolerant))
            self.assertEqual(len(ignored(tolerant)), 3)

    def test_each_kind_of_call_keeps_its_repair(self):
        # When all trusts have become equal, what was ignored behind the call before stays ignored.
        def entered(tolerant):
            tolerant.trust_anew("entries", 0, 6)
            tolerant.enter(0, "car", trust=7)
            found = tolerant.best()[0]
            self.assertIn(found, [[0], [1]])
            tolerant.trust_anew("entries", 2, 6)
            return found

        def raised(tolerant):
            tolerant.take_back("exits", 1)
            tolerant.raise_floor("exits", 30)
            return [0]

        def closed(tolerant):
            tolerant.take_back("exits", 1)
            tolerant.close("exits")
            return [0]

        def taken_back(tolerant):
            tolerant.close("exits")
            tolerant.take_back("exits", 0)
            return [0]

        for change, floor in ((entered, 20), (raised, 0), (closed, 0), (taken_back, 0)):
            tolerant = Tolerant(CAR)
            tolerant.enter(0, "car", trust=5)
            tolerant.enter(0, "car", trust=6)
            tolerant.leave(7, "car")
            tolerant.leave(7, "car")
            tolerant.raise_floor("exits", floor)
            expected = change(tolerant)
            tolerant.trust_anew("entries", 0, 6)
            self.assertEqual(tolerant.best()[0], expected)

    def test_closed_gates(self):
        tolerant = Tolerant(CAR)
        for time in (0, 1, 2, 500, 501):
            tolerant.enter(time, "car")
        tolerant.leave(8, "car")
        tolerant.leave(507, "car")
        tolerant.raise_floor("exits", 300)
        first = ignored(tolerant)
        self.assertEqual(len(first), 2)
        tolerant.close("exits")
        self.assertTrue(first < ignored(tolerant))
        self.assertEqual(len(ignored(tolerant)), 3)

    def test_best_has_the_lines_of_the_kept_repair(self):
        random = Random(95)
        for _ in range(60):
            tolerant = self.crowd(5)
            for _ in range(10):
                before = ignored(tolerant)
                number, trust = random.randrange(5), random.choice([4, 5, 6])
                tolerant.trust_anew("entries", number, trust)
                found = self.check_best(tolerant, CAR)
                trusts = tolerant.snapshot()[1][0]
                paired = [number for number in range(5) if number not in found[0]]
                self.assertEqual([len(found[0]), trusts[paired[0]]], [4, max(trusts)])
                self.assertLessEqual(len(before ^ ignored(tolerant)), 2)
                for _ in range(2):
                    self.assertTrue(same(tolerant.best(), found))
                    self.assertTrue(same(tolerant.fork().best(), found))


class NewsTest(TolerantCase):
    def test_news(self):
        tolerant = Tolerant(CAR)
        self.assertTrue(same(tolerant.news(), ([], [])))
        tolerant.enter(0, "car")
        tolerant.leave(7, "car")
        self.assertEqual([tolerant.news(), tolerant.certain()], [([], []), []])
        tolerant.raise_floor("exits", 11)
        self.assertEqual([tolerant.news(), tolerant.news(), tolerant.certain()], [([(0, 0)], []), ([], []), [(0, 0)]])
        # A second entry that could be the one that left at 7 makes the pair uncertain.
        tolerant.enter(1, "car")
        tolerant.raise_floor("exits", 12)
        self.assertEqual([tolerant.news(), tolerant.news(), tolerant.certain()], [([], [(0, 0)]), ([], []), []])
        tolerant.trust_anew("entries", 1, 6)
        self.assertEqual([tolerant.news(), tolerant.news()], [([(1, 0)], []), ([], [])])
        tolerant.trust_anew("entries", 0, 7)
        self.assertEqual([tolerant.news(), tolerant.news()], [([(0, 0)], [(1, 0)]), ([], [])])

    def test_lines_taken_back(self):
        tolerant = Tolerant(CAR)
        for time in (200, 0, 100):
            tolerant.enter(time, "car")
        for time in (107, 7, 207):
            tolerant.leave(time, "car")
        tolerant.close("exits")
        self.assertEqual(tolerant.news(), ([(0, 2), (1, 1), (2, 0)], []))
        tolerant.take_back("entries", 1)
        tolerant.take_back("exits", 0)
        self.assertEqual([tolerant.news(), tolerant.news()], [([], [(1, 1), (2, 0)]), ([], [])])
        self.assertEqual(tolerant.certain(), [(0, 2)])

    def test_what_is_certain_only_in_between(self):
        tolerant = Tolerant(CAR)
        tolerant.enter(0, "car")
        tolerant.leave(7, "car")
        tolerant.raise_floor("exits", 11)
        self.assertEqual(tolerant.certain(), [(0, 0)])
        tolerant.take_back("exits", 0)
        self.assertEqual(tolerant.news(), ([], []))
        # A pair that was certain, was not and is so again is no news.
        tolerant.leave(20, "car")
        tolerant.enter(12, "car")
        tolerant.raise_floor("exits", 23)
        self.assertEqual(tolerant.news(), ([(1, 1)], []))
        tolerant.trust_anew("entries", 0, 9)
        self.assertEqual(tolerant.enter(14, "car", trust=9), 2)
        tolerant.raise_floor("exits", 25)
        self.assertEqual(tolerant.certain(), [(2, 1)])
        tolerant.take_back("entries", 2)
        self.assertEqual([tolerant.certain(), tolerant.news()], [[(1, 1)], ([], [])])


class ForkTest(TolerantCase):
    def start(self):
        tolerant = Tolerant(CAR)
        tolerant.enter(0, "car", trust=3)
        tolerant.enter(1, "car", trust=8)
        tolerant.leave(6, "car")
        tolerant.raise_floor("exits", 12)
        return tolerant

    def test_forks_are_independent(self):
        tolerant = self.start()
        first, second = tolerant.fork(), tolerant.fork()
        third = first.fork()
        before = look(tolerant)
        for other in (first, second, third):
            self.assertIs(type(other), Tolerant)
            self.assertTrue(same(look(other), before))
        first.take_back("entries", 1)
        second.trust_anew("entries", 0, 9)
        third.close("entries")
        third.news()
        self.assertTrue(same(look(tolerant), before))
        self.assertEqual([first.certain(), second.certain(), third.certain()], [[(0, 0)], [(0, 0)], [(1, 0)]])
        self.assertEqual([first.enter(20), second.enter(21), second.leave(27)], [2, 2, 1])
        self.check_error(LateLine, "time", 20, third.enter, 20)
        self.assertTrue(same(look(tolerant), before))
        tolerant.leave(50)
        tolerant.raise_floor("exits", 60)
        self.assertEqual([len(other.snapshot()[0][1]) for other in (tolerant, first, second, third)], [2, 1, 2, 1])
        self.assertEqual([other.snapshot()[0][3] for other in (tolerant, first, second, third)], [60, 12, 12, 12])

    def test_forks_keep_numbers_and_news(self):
        tolerant = self.start()
        tolerant.take_back("entries", 0)
        self.assertEqual([tolerant.fork().news(), tolerant.fork().fork().news()], [([(1, 0)], [])] * 2)
        self.assertEqual(tolerant.news(), ([(1, 0)], []))
        fork = tolerant.fork().fork()
        self.assertEqual(fork.news(), ([], []))
        self.assertEqual([fork.enter(30), fork.leave(37)], [2, 1])
        fork.take_back("exits", 0)
        self.assertEqual(fork.news(), ([], [(1, 0)]))
        self.assertEqual(tolerant.news(), ([], []))
        self.assertEqual([tolerant.enter(30), tolerant.leave(37)], [2, 1])

    def test_forks_keep_the_kept_repair(self):
        for number in (0, 1, 2):
            tolerant = Tolerant(CAR)
            tolerant.leave(7, "car")
            tolerant.leave(7, "car")
            for _ in range(3):
                tolerant.enter(0, "car")
            tolerant.close("exits")
            tolerant.trust_anew("entries", number, 1)
            tolerant.trust_anew("entries", number, 5)
            for other in (tolerant, tolerant.fork(), tolerant.fork().fork()):
                self.assertEqual(other.best()[0], [number])
                other.enter(100, "car")
                self.assertEqual(other.best()[0], [number, 3])


class CopiesTest(TolerantCase):
    def test_kinds(self):
        kinds = {"zebra": (5, 10), "bus": (8, 20), "car": (5, 10)}
        tolerant = Tolerant(kinds)
        tolerant.enter(0, "car")
        tolerant.leave(7)
        fork = tolerant.fork()
        before = look(tolerant)
        self.assertEqual(list(kinds), ["zebra", "bus", "car"])
        kinds["car"] = (1, 1)
        del kinds["bus"]
        kinds["van"] = (0, 0)
        for other in (tolerant, fork):
            self.assertTrue(same(look(other), before))
            self.assertEqual([other.enter(1, "bus"), other.leave(14, "bus")], [1, 1])
            self.assertEqual([other.outcomes(0), other.outcomes(1)], [([0], True), ([1], True)])

    def test_returned_lists(self):
        tolerant = Tolerant(CAR)
        tolerant.enter(0, "car", trust=3)
        tolerant.enter(1, "car", trust=8)
        tolerant.leave(6, "car")
        tolerant.close("exits")
        before = look(tolerant)
        wreck(look(tolerant))
        for call in (tolerant.snapshot, tolerant.best, tolerant.lacks, tolerant.certain):
            wreck(call())
        wreck([tolerant.outcomes(0), tolerant.outcomes(1)])
        self.assertTrue(same(look(tolerant), before))
        wreck(tolerant.news())
        self.assertEqual([tolerant.news(), tolerant.certain()], [([], []), [(1, 0)]])
        wreck(tolerant.news())
        tolerant.take_back("entries", 1)
        wreck(tolerant.certain())
        self.assertEqual([tolerant.news(), tolerant.news()], [([(0, 0)], [(1, 0)]), ([], [])])


class LargeTest(TolerantCase):
    def test_forty_lines_a_gate(self):
        random = Random(96)
        for _ in range(3):
            tolerant = Tolerant({"car": (5, 14), "bus": (8, 20), "van": (30, 31)})
            for number in range(40):
                kind, trust = random.choice([None, "car", "bus", "van"]), random.randint(1, 9)
                tolerant.enter(5 * number + random.randrange(20), kind, trust=trust)
                tolerant.leave(5 * number + random.randrange(10, 40), kind, trust=10 - trust)
                if number % 10 == 9:
                    tolerant.raise_floor("exits", 4 * number)
            tolerant.close("exits")
            tolerant.raise_floor("entries", 150)
            found = self.check_best(tolerant, tolerant.kinds)
            self.assertEqual([len(found[0]), len(found[1])], [counts[0] for counts in tolerant.lacks()])
            new, old = tolerant.news()
            self.assertEqual((new, old), (tolerant.certain(), []))
            self.assertLessEqual(set(new), set(found[2]))
            words = [tolerant.line("entries", number) for number in range(40)]
            for number in range(40):
                exits, is_alone = tolerant.outcomes(number)
                self.assertEqual(is_alone, words[number] != "paired")
                if words[number] in ("paired", "either"):
                    self.assertNotEqual(exits, [])
                if words[number] == "ignored":
                    self.assertEqual(exits, [])
                certain = [pair[1] for pair in new if pair[0] == number]
                self.assertIn(certain, [[], exits])
            for gate, numbers in zip(GATES, found[:2]):
                for number in numbers:
                    tolerant.take_back(gate, number)
            self.assertEqual(tolerant.lacks(), ([0] * 9, [0] * 9))


class InterfaceTest(unittest.TestCase):
    def test_methods_are_defined_in_the_class(self):
        self.assertEqual(Tolerant.__module__, "gatepairs.tolerant")
        names = ["enter", "leave", "raise_floor", "close", "trust_anew", "take_back", "lacks", "best", "line", "pair"]
        names += ["outcomes", "certain", "news", "snapshot", "fork"]
        for name in names:
            self.assertIn(name, vars(Tolerant))

    def test_arguments_by_name(self):
        tolerant = Tolerant(kinds=CAR)
        self.assertEqual(tolerant.enter(trust=3, plate="A1", kind="car", time=50), 0)
        self.assertEqual(tolerant.leave(trust=4, plate="A1", kind="car", time=57), 0)
        self.assertIs(tolerant.raise_floor(floor=61, gate="exits"), None)
        self.assertIs(tolerant.trust_anew(trust=7, number=0, gate="entries"), None)
        self.assertEqual(tolerant.line(number=0, gate="entries"), "paired")
        self.assertEqual(tolerant.pair(exit_number=0, entry_number=0), "certain")
        self.assertEqual(tolerant.outcomes(entry_number=0), ([0], False))
        self.assertIs(tolerant.take_back(number=0, gate="exits"), None)
        self.assertIs(tolerant.close(gate="entries"), None)
        self.assertEqual(tolerant.snapshot(), ((cars([50], "A1"), [], "closed", 61), ([7], []), [0], []))


if __name__ == "__main__":
    unittest.main()
