"""The error classes: their bases, and the fields told in the interface."""

import inspect
import unittest

from oneroof import errors

UNDER = {
    "RoofError": ValueError,
    "BadName": "RoofError",
    "BadDay": "RoofError",
    "BadNumber": "RoofError",
    "BadCount": "RoofError",
    "Taken": "RoofError",
    "BadDeed": "RoofError",
    "Clash": "RoofError",
    "Short": "RoofError",
    "Ring": "RoofError",
    "BadText": "RoofError",
    "BadForm": "RoofError",
    "Full": "RoofError",
    "Missing": LookupError,
    "NoHouse": "Missing",
    "NoCoin": "Missing",
    "NoRow": "Missing",
    "NoTelling": "Missing",
    "NotRuled": "Missing",
    "NoMeasure": ZeroDivisionError,
    "Nothing": IndexError,
}

FIELDS = {
    "BadName": {"name": "Ab"},
    "BadDay": {"day": 30},
    "BadNumber": {"number": 0},
    "BadCount": {"count": 6},
    "Taken": {"name": "a"},
    "BadDeed": {},
    "Clash": {},
    "Short": {"number": 3},
    "Ring": {"number": 4, "ring": ["a", "b"]},
    "BadText": {"line": 2},
    "BadForm": {},
    "Full": {},
    "NoHouse": {"name": "z"},
    "NoCoin": {"name": "z"},
    "NoRow": {"name": "z"},
    "NoTelling": {"number": 5},
    "NotRuled": {"name": "b"},
    "NoMeasure": {},
    "Nothing": {},
}


class ErrorClasses(unittest.TestCase):
    def test_each_class_stands_directly_under_its_one_base(self):
        for name, base in UNDER.items():
            with self.subTest(name=name):
                wanted = getattr(errors, base) if isinstance(base, str) else base
                self.assertEqual(getattr(errors, name).__bases__, (wanted,))
                self.assertEqual(getattr(errors, name).__module__, "oneroof.errors")

    def test_there_are_no_other_classes(self):
        found = [name for name, _ in inspect.getmembers(errors, inspect.isclass)]
        self.assertEqual(sorted(found), sorted(UNDER))

    def test_fields_by_position_and_by_name(self):
        for name, fields in FIELDS.items():
            for error in (
                getattr(errors, name)(*fields.values()),
                getattr(errors, name)(**fields),
            ):
                with self.subTest(name=name):
                    self.assertEqual(vars(error), fields)

    def test_number_of_thousands_of_figures_is_told(self):
        number = 10 ** 6000
        error = errors.BadNumber(number)
        self.assertEqual(error.number, number)
        self.assertIsInstance(str(error), str)
        self.assertIsInstance(str(errors.BadDay(number)), str)

    def test_ring_keeps_its_own_list(self):
        ring = ["a", "b"]
        error = errors.Ring(1, ring)
        ring.append("c")
        self.assertEqual(error.ring, ["a", "b"])


if __name__ == "__main__":
    unittest.main()
