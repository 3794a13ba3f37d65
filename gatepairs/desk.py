"""Desks: they keep monitors by name and answer rows of words."""

from gatepairs.errors import InvalidRow, UnknownMonitor
from gatepairs.lines import LETTERS, PLATE_SIGNS, is_kinds
from gatepairs.monitor import Monitor
from gatepairs.text import format_log, number_of, word_of
from gatepairs.values import is_word

# The parts that follow the first word of a row. The rows that begin with "open" are of no fixed length.
FORMS = {
    "names": (),
    "in": ("NAME", "NUMBER", "KIND", "PLATE"),
    "out": ("NAME", "NUMBER", "KIND", "PLATE"),
    "floor": ("NAME", "GATE", "NUMBER"),
    "close": ("NAME", "GATE"),
    "news": ("NAME",),
    "outcomes": ("NAME", "NUMBER"),
    "forget": ("NAME",),
    "fork": ("NAME", "NAME"),
    "log": ("NAME",),
}


class Desk:
    """A desk. It holds its monitors by name."""

    def __init__(self):
        self.monitors = {}

    def say(self, row):
        """The answer to a row. Raises InvalidRow, UnknownMonitor or an error of the monitor's method."""
        words = row.split(" ")
        if words[0] == "open":
            return self.keep_new(row, words)
        if not has_form(words):
            raise InvalidRow(row)
        if words[0] == "names":
            return answer_of(sorted(self.monitors))
        name = words[1]
        if name not in self.monitors:
            raise UnknownMonitor(name)
        monitor = self.monitors[name]
        if words[0] == "fork":
            self.monitors[words[2]] = monitor.fork()
            return "ok"
        if words[0] in ("in", "out"):
            return log_line(monitor, row, words)
        if words[0] in ("floor", "close"):
            return set_floor(monitor, words)
        return tell(monitor, words)

    def keep_new(self, row, words):
        """The answer to a row that begins with "open"."""
        kinds = kinds_of(words[2:])
        if kinds is None or not is_word(words[1], LETTERS):
            raise InvalidRow(row)
        self.monitors[words[1]] = Monitor(kinds)
        return "ok"


def has_form(words):
    """True if the words make a row of one of the fixed forms."""
    if words[0] not in FORMS or len(words) != 1 + len(FORMS[words[0]]):
        return False
    return all(is_part(part, word) for part, word in zip(FORMS[words[0]], words[1:]))


def is_part(part, word):
    """True if the word can stand for this part of a form. For a kind, this is each name, whatever the table says."""
    if part == "NAME":
        return is_word(word, LETTERS)
    if part == "KIND":
        return word == "-" or is_word(word, LETTERS)
    if part == "PLATE":
        return word == "-" or is_word(word, PLATE_SIGNS)
    if part == "GATE":
        return word in ("entries", "exits")
    return number_of(word) is not None


def kinds_of(words):
    """The kinds table that these groups of three words make, or None if they make none."""
    groups = [words[place:place + 3] for place in range(0, len(words), 3)]
    if not all(len(group) == 3 for group in groups):
        return None
    kinds = {group[0]: (number_of(group[1]), number_of(group[2])) for group in groups}
    # A kind that stands in two groups would be only once in the table.
    return kinds if is_kinds(kinds) and len(kinds) == len(groups) else None


def log_line(monitor, row, words):
    """The answer to a row that logs a line."""
    time, kind, plate = number_of(words[2]), word_of(words[3]), word_of(words[4])
    if kind is not None and kind not in monitor.kinds:
        raise InvalidRow(row)
    if words[0] == "in":
        return str(monitor.enter(time, kind, plate))
    return str(monitor.leave(time, kind, plate))


def set_floor(monitor, words):
    """The answer to a row that raises a floor or closes a gate."""
    if words[0] == "floor":
        monitor.raise_floor(words[2], number_of(words[3]))
    else:
        monitor.close(words[2])
    return "ok"


def tell(monitor, words):
    """The answer to a row that asks for news, outcomes, or the log, or that lets the monitor forget."""
    if words[0] == "news":
        return answer_of([f"{entry}-{leaving}" for entry, leaving in monitor.news()])
    if words[0] == "outcomes":
        exits, is_open = monitor.outcomes(number_of(words[2]))
        return answer_of([str(leaving) for leaving in exits] + (["open"] if is_open else []))
    if words[0] == "forget":
        return str(monitor.forget())
    return format_log(monitor.snapshot()[0])


def answer_of(items):
    """The answer with these items."""
    return " ".join(items) if items else "none"
