"""A test case with checks that each function of the package has to pass."""

import unittest
from copy import deepcopy

from tests.samples import same


class Case(unittest.TestCase):
    def check(self, function, expected, *arguments):
        """The function returns just this, and leaves its arguments as they are."""
        before = deepcopy(arguments)
        found = function(*arguments)
        self.assertTrue(same(found, expected), f"{function.__name__} returned {found}, not {expected}")
        self.assertTrue(same(arguments, before), f"{function.__name__} has changed its arguments")

    def check_values(self, function, expected, values, *arguments):
        for number, value in enumerate(values):
            with self.subTest(number=number):
                self.check(function, expected, *arguments, value)
