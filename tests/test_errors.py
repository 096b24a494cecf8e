"""Points 1 and 2: the errors of the interface."""

import inspect
import unittest

from savedseats import errors

# Each error with the attribute that the interface lists for it, or None.
LISTED = {
    "BadPlaces": "count",
    "BadEdges": "count",
    "BadEdge": "index",
    "BadEntry": "place",
    "NoExits": None,
    "BadExit": "place",
    "Idle": "place",
    "NoGate": "number",
    "BadWay": "index",
    "NotWhole": "place",
    "BadPlace": "number",
    "BadMark": "number",
    "TwoMarks": "number",
    "BadLength": "count",
    "BadPrice": "gate",
    "BadWord": "word",
    "OtherWeb": None,
    "TooMany": "count",
    "Barred": "index",
    "BadSeats": "count",
    "BadName": "name",
    "NoSeat": "name",
    "BadEdit": "change",
    "BadMenu": "count",
    "TwiceInMenu": "index",
    "BadDeed": "index",
    "BadLine": "line",
}


class TestErrors(unittest.TestCase):
    def test_the_module_has_just_the_listed_errors(self):
        classes = {name for name, value in vars(errors).items() if inspect.isclass(value)}
        self.assertEqual(classes, set(LISTED) | {"SeatError"})

    def test_all_derive_directly_from_the_base(self):
        self.assertEqual(errors.SeatError.__bases__, (ValueError,))
        for name in LISTED:
            with self.subTest(name):
                self.assertEqual(getattr(errors, name).__bases__, (errors.SeatError,))

    def test_each_is_raised_as_a_seat_error_and_a_value_error(self):
        for name, attribute in LISTED.items():
            passed = [] if attribute is None else [7]
            for kind in (getattr(errors, name), errors.SeatError, ValueError):
                with self.subTest(name, kind=kind), self.assertRaises(kind):
                    raise getattr(errors, name)(*passed)

    def test_each_holds_what_it_is_passed(self):
        for name, attribute in LISTED.items():
            if attribute is None:
                continue
            for value in (0, -1, "x", None, ("use", "a", 1), ["use", "a", 1]):
                with self.subTest(name, value=value):
                    error = getattr(errors, name)(value)
                    self.assertEqual(vars(error), {attribute: value})
                    self.assertIs(getattr(error, attribute), value)

    def test_each_takes_its_attribute_by_its_name(self):
        for name, attribute in LISTED.items():
            if attribute is not None:
                with self.subTest(name):
                    self.assertEqual(vars(getattr(errors, name)(**{attribute: 7})), {attribute: 7})

    def test_each_takes_just_what_is_listed(self):
        for name, attribute in LISTED.items():
            with self.subTest(name):
                listed = [] if attribute is None else ["self", attribute]
                error = getattr(errors, name)
                if attribute is None:
                    self.assertEqual(vars(error()), {})
                else:
                    self.assertEqual(list(inspect.signature(error.__init__).parameters), listed)
                    self.assertRaises(TypeError, error)


if __name__ == "__main__":
    unittest.main()
