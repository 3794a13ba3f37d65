"""What several tests use: kinds tables, logs and values of any kind."""

from random import Random

GATES = ("entries", "exits")
CAR = {"car": (5, 10)}
# The log that most examples of the document are about.
LOG = ([(0, "car", None), (2, "car", None)], [(7, "car", None), (12, "car", None)], 0, 12)
SHORT = {"car": (0, 1)}
# Between the two kinds there is a gap: nothing travels for 7 to 11.
GAP = {"van": (12, 14), "bike": (5, 6)}


def cars(times, plate=None):
    """Lines of cars at these times."""
    return [(time, "car", plate) for time in times]


# Logs of cars that travel for 5 to 10.
WITHOUT_WORLD = [
    (cars([0]), [], 0, "closed"),
    ([], cars([5]), "closed", 0),
    (cars([0, 1]), cars([6]), "closed", "closed"),
    (cars([0]), cars([6, 7]), "closed", "closed"),
    (cars([0, 50]), cars([6, 20]), "closed", "closed"),
]


def nest(depth, wrap):
    """A value that is nested this deep."""
    value = wrap(None)
    for _ in range(depth - 1):
        value = wrap(value)
    return value


DEEP = [
    nest(50, lambda value: [value]),
    nest(50, lambda value: (value,)),
    nest(50, lambda value: {"car": value}),
    nest(50, lambda value: (0, value, None)),
    nest(50, lambda value: (value, [], 0, 0)),
    nest(50, lambda value: ("entries", value)),
    nest(50, lambda value: [(0, value)]),
    nest(50, lambda value: [{(0, 1): ([0], value)}]),
]

# None of these is a kinds table, a line, a log, an excess or a non-empty world.
ODD = DEEP + [
    None,
    True,
    False,
    0,
    1,
    -1,
    10 ** 9,
    10 ** 5000,
    "",
    "car",
    "closed",
    "entries",
    "exits",
    "AB12",
    "abc",
    "\ud800",
    (),
    (0,),
    (0, 0),
    (0, 0, 0),
    (0, 0, 0, 0),
    ((), (), (), ()),
    ([], []),
    [0],
    [None],
    [[]],
    [()],
    [[0, 0]],
    [("entries", [0])],
    {},
    {0: 1},
    {None: (5, 10)},
    {True: (5, 10)},
    {("car",): (5, 10)},
    {"car": None},
    {"car": {}},
    {"entries": [0]},
    {"closed": "closed"},
]


def same(first, second):
    """True if the values are equal also in their kinds: 1 is not True, and a list is not a tuple."""
    if type(first) is not type(second) or first != second:
        return False
    if isinstance(first, dict):
        return list(first) == list(second) and all(same(first[key], second[key]) for key in first)
    if isinstance(first, (list, tuple)):
        return all(same(*pair) for pair in zip(first, second))
    return True


def spoilt(value):
    """The value with one of its parts replaced by an odd value, in all ways."""
    yield from ODD
    if isinstance(value, (list, tuple)):
        for place in range(len(value)):
            for part in spoilt(value[place]):
                yield type(value)([*value[:place], part, *value[place + 1 :]])
    if isinstance(value, dict):
        for key in value:
            for part in spoilt(value[key]):
                yield {**value, key: part}


def small_logs(count):
    """Random logs with few lines, as tuples (kinds, log): about as many with a world as without."""
    random = Random(2)
    for _ in range(count):
        kinds = random.choice([{"car": (2, 4)}, {"car": (0, 1), "van": (4, 5)}, {"car": (3, 3), "van": (1, 6)}])
        log = [[random_line(random, kinds, 9) for _ in range(random.randrange(4))] for _ in GATES]
        yield kinds, (*log, random.choice([0, 2, 5, "closed"]), random.choice([0, 8, 11, "closed"]))


def random_line(random, kinds, latest):
    plate = random.choice([None, None, None, "A1", "B2"])
    return random.randrange(latest + 1), random.choice([None, *kinds]), plate


def busy_logs(count):
    """Random logs with up to four lines a gate that fit easily, as tuples (kinds, log): most of them have worlds."""
    random = Random(12)
    for _ in range(count):
        kinds = random.choice([{"car": (0, 3)}, {"car": (0, 1), "van": (2, 4)}, {"car": (1, 4), "van": (1, 2)}])
        many = random.randrange(5)
        entries = [random_line(random, kinds, 4) for _ in range(many)]
        exits = [(time + 1, kind, random.choice([None, plate])) for time, kind, plate in entries]
        random.shuffle(exits)
        yield kinds, (entries, exits, random.choice([0, 2, "closed"]), random.choice([0, 4, 6, "closed"]))


def tight_log(first=0):
    """A log of 80 lines a gate with one world. With the kinds SHORT, entry i fits the exits i and i + 1 only."""
    times = list(range(first, first + 80))
    return cars(times), cars(times), "closed", "closed"


def shuffled(random, log):
    """The log with the lines of each gate in another order, and two lists: the old number of each new one."""
    orders = [random.sample(range(len(lines)), len(lines)) for lines in log[:2]]
    lines = [[log[place][number] for number in orders[place]] for place in range(2)]
    return (*lines, *log[2:]), orders


def later(log, delay):
    """The log with all times and floors later by this number."""
    lines = [[(time + delay, kind, plate) for time, kind, plate in log[place]] for place in range(2)]
    return (*lines, *(floor if floor == "closed" else floor + delay for floor in log[2:]))


def large_logs(count):
    """Random logs with 80 lines a gate, as tuples (kinds, log)."""
    random = Random(4)
    kinds = {"car": (5, 14), "bus": (8, 20), "van": (30, 31)}
    for number in range(count):
        entries, exits = [], []
        for _ in range(80):
            time, name, plate = random_line(random, kinds, 200 + 100 * (number % 5))
            true_name = random.choice(list(kinds)) if name is None else name
            entries.append((time, name, plate))
            travel = random.randint(*kinds[true_name])
            exits.append((time + travel, random.choice([None, true_name]), random.choice([None, plate])))
        random.shuffle(exits)
        # One line more or less at the wrong time leaves many of the logs without a world.
        for lines in (entries, exits):
            if random.randrange(4) == 0:
                lines[random.randrange(80)] = random_line(random, kinds, 300)
        floors = [random.choice([0, 100, "closed"]), random.choice([150, 300, "closed", "closed"])]
        yield kinds, (entries, exits, *floors)
