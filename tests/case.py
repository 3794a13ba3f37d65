"""A test case with checks that each function of the package has to pass."""

import unittest
from copy import deepcopy

from gatepairs.errors import Contradiction
from gatepairs.worlds import is_excess
from tests.samples import same


def wreck(value):
    """Change each list and each dict that the value contains."""
    if isinstance(value, dict):
        for part in list(value.values()):
            wreck(part)
        value["wrecked"] = None
    elif isinstance(value, (list, tuple)):
        for part in value:
            wreck(part)
        if isinstance(value, list):
            value.insert(0, "wrecked")
            value.append("wrecked")


class Case(unittest.TestCase):
    def check(self, function, expected, *arguments):
        """The function returns just this, and leaves its arguments as they are."""
        before = deepcopy(arguments)
        found = function(*arguments)
        self.assertTrue(same(found, expected), f"{function.__name__} returned {found}, not {expected}")
        self.assertTrue(same(arguments, before), f"{function.__name__} has changed its arguments")

    def check_values(self, function, expected, values, *arguments):
        for number, value in enumerate(values):
            with self.subTest(number=number):
                self.check(function, expected, *arguments, value)

    def result(self, function, *arguments, **named):
        """What the function returns. It leaves its arguments as they are, and its lists and dicts are of its own."""
        before = deepcopy((arguments, named))
        found = function(*arguments, **named)
        self.assertTrue(same((arguments, named), before), f"{function.__name__} has changed its arguments")
        kept = deepcopy(found)
        wreck(found)
        self.assertTrue(same((arguments, named), before), f"{function.__name__} has returned parts of its arguments")
        self.assertTrue(same(function(*arguments, **named), kept), f"{function.__name__} has returned parts of its own")
        return kept

    def check_contradiction(self, function, kinds, log, *arguments, **named):
        """The function raises Contradiction with an excess of the log, and returns nothing."""
        before = deepcopy((kinds, log))
        with self.assertRaises(Contradiction) as caught:
            function(kinds, log, *arguments, **named)
        self.assertIs(is_excess(kinds, log, caught.exception.excess), True)
        self.assertTrue(same((kinds, log), before), f"{function.__name__} has changed its arguments")
