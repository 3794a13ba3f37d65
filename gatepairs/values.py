"""Checks of values that may be anything."""


def is_integer(value, low, high):
    """True if the value is an integer from low to high. True and False are no integers."""
    return isinstance(value, int) and not isinstance(value, bool) and low <= value <= high


def is_tuple(value, size):
    """True if the value is a tuple with this many items."""
    return isinstance(value, tuple) and len(value) == size


def is_word(value, signs):
    """True if the value is a string of one to eight of the signs."""
    return isinstance(value, str) and 1 <= len(value) <= 8 and all(sign in signs for sign in value)


def is_ascending(items):
    """True if each item is greater than the one before it."""
    return all(items[place - 1] < items[place] for place in range(1, len(items)))


def is_number_list(value, size):
    """True if the value is an ascending list of numbers of a list of this size."""
    return isinstance(value, list) and all(is_integer(item, 0, size - 1) for item in value) and is_ascending(value)


def is_pair_list(value, first_size, second_size):
    """True if the value is an ascending list of tuples of a number of a first and a number of a second list."""
    return (
        isinstance(value, list)
        and all(is_number_pair(item, first_size, second_size) for item in value)
        and is_ascending(value)
    )


def is_number_pair(value, first_size, second_size):
    """True if the value is a tuple of a number of a first and a number of a second list."""
    return is_tuple(value, 2) and is_integer(value[0], 0, first_size - 1) and is_integer(value[1], 0, second_size - 1)
