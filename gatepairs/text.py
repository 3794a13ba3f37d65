"""The written forms of lines and logs."""

from gatepairs.errors import InvalidText
from gatepairs.lines import LATEST, is_floor, is_line

DIGITS = "0123456789"
MOST_DIGITS = 10


def format_line(line):
    """The written form of a line."""
    time, kind, plate = line
    return f"{time} {format_word(kind)} {format_word(plate)}"


def format_word(word):
    """The written form of a kind or a plate, which may be None."""
    return "-" if word is None else word


def format_log(log):
    """The written form of a log."""
    entries, exits, entry_floor, exit_floor = log
    rows = [f"floors {entry_floor} {exit_floor}"]
    rows.extend([f"in {format_line(line)}" for line in entries])
    rows.extend([f"out {format_line(line)}" for line in exits])
    return "\n".join(rows)


def parse_line(kinds, text):
    """The line whose written form is the text. Raises InvalidText(0) if there is none."""
    line = line_of(kinds, text)
    if line is None:
        raise InvalidText(0)
    return line


def line_of(kinds, text):
    """The line whose written form is the text, or None."""
    words = text.split(" ")
    if len(words) != 3:
        return None
    line = (number_of(words[0]), word_of(words[1]), word_of(words[2]))
    return line if is_line(kinds, line) else None


def number_of(word):
    """The integer from 0 to 10**9 whose written form is the word, or None."""
    # Python refuses to turn very long words into numbers, so the length comes first.
    if not 1 <= len(word) <= MOST_DIGITS or not all(sign in DIGITS for sign in word):
        return None
    if word[0] == "0" and word != "0":
        return None
    number = int(word)
    return number if number <= LATEST else None


def word_of(word):
    """The kind or plate that would have this written form."""
    return None if word == "-" else word


def parse_log(kinds, text):
    """The log whose written form is the text.

    Raises InvalidText with the number of the first row that is in no written form after the rows before it.
    """
    rows = text.split("\n")
    floors = floors_of(rows[0])
    if floors is None:
        raise InvalidText(0)
    entries, exits = [], []
    for number in range(1, len(rows)):
        word, _, rest = rows[number].partition(" ")
        line = line_of(kinds, rest)
        if line is None:
            raise InvalidText(number)
        if word == "out":
            exits.append(line)
        elif word == "in" and not exits:
            entries.append(line)
        else:
            raise InvalidText(number)
    return entries, exits, floors[0], floors[1]


def floors_of(row):
    """The list of the two floors of the first row of a written log, or None if it is no such row."""
    words = row.split(" ")
    if len(words) != 3 or words[0] != "floors":
        return None
    floors = [word if word == "closed" else number_of(word) for word in words[1:]]
    return floors if all(is_floor(floor) for floor in floors) else None
