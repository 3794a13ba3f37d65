import unittest

from gatepairs import errors
from gatepairs.errors import GateError
from tests.samples import ODD

ATTRIBUTES = {
    "Contradiction": "excess",
    "LateLine": "time",
    "LowerFloor": "floor",
    "GateFull": "gate",
    "UnknownLine": "number",
    "TooMany": "limit",
    "InvalidText": "row",
    "InvalidRow": "row",
    "UnknownMonitor": "name",
}


class ErrorsTest(unittest.TestCase):
    def test_gate_error_is_a_value_error(self):
        self.assertEqual(GateError.__bases__, (ValueError,))
        self.assertIsInstance(GateError("wrong"), ValueError)

    def test_each_error_is_a_direct_subclass(self):
        for name in ATTRIBUTES:
            with self.subTest(name=name):
                self.assertEqual(getattr(errors, name).__bases__, (GateError,))
        self.assertEqual(sorted(found.__name__ for found in GateError.__subclasses__()), sorted(ATTRIBUTES))

    def test_classes_are_defined_in_this_file(self):
        for name in ["GateError", *ATTRIBUTES]:
            self.assertEqual(getattr(errors, name).__module__, "gatepairs.errors")

    def test_each_error_carries_any_value(self):
        for name, attribute in ATTRIBUTES.items():
            for number, value in enumerate([*ODD, ("entries", [0]), [1, 2], "in m 0 car -"]):
                with self.subTest(name=name, number=number):
                    made = getattr(errors, name)
                    self.assertIs(getattr(made(value), attribute), value)
                    self.assertIs(getattr(made(**{attribute: value}), attribute), value)
                    self.assertEqual(list(vars(made(value))), [attribute])

    def test_errors_are_raised_and_caught(self):
        for name, attribute in ATTRIBUTES.items():
            for base in (GateError, ValueError, getattr(errors, name)):
                with self.subTest(name=name, base=base):
                    with self.assertRaises(base) as caught:
                        raise getattr(errors, name)(7)
                    self.assertEqual(getattr(caught.exception, attribute), 7)

    def test_message_does_not_depend_on_the_value(self):
        for name in ATTRIBUTES:
            for value in (10 ** 5000, "x" * 1000, None):
                self.assertLess(len(str(getattr(errors, name)(value))), 100)
                self.assertLess(len(repr(getattr(errors, name)(value))), 200)


if __name__ == "__main__":
    unittest.main()
