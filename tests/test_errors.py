"""Point 2 and the interface's row of errors.py: the refusals with their values."""

import inspect
import unittest

from tests.helper import odd_things
from woundwalks import errors

VALUES = {
    "NoPlace": ["place"], "NoNumber": ["number"], "TooMany": ["many"], "NotMarked": ["crossing", "place"],
    "NotArm": ["arm"], "Loose": ["kind", "row"], "Unsettled": ["row"], "Clash": ["crossing", "name"],
    "NoCrossing": ["crossing"], "NoName": ["name"], "NoArms": ["arms"], "NoArm": ["arm"], "NoWord": ["word"],
    "NoGoals": ["goals"], "NoSize": ["n"], "NoAsk": ["ask"], "NoText": ["row"], "Done": [], "NoPaper": [],
    "PostThere": [], "NoPost": [], "LastArm": [], "Full": [], "NoBack": [], "NoLine": [],
}


class TestErrors(unittest.TestCase):
    def test_all_classes_are_there_and_no_others(self):
        told = [name for name, thing in vars(errors).items() if inspect.isclass(thing)]
        self.assertEqual(sorted(told), sorted([*VALUES, "WalkError"]))

    def test_they_stand_straight_under_walk_error(self):
        self.assertEqual(errors.WalkError.__bases__, (ValueError,))
        for name in VALUES:
            self.assertEqual(getattr(errors, name).__bases__, (errors.WalkError,), name)

    def test_values_by_places_and_by_names(self):
        for name, values in VALUES.items():
            with self.subTest(name=name):
                made = getattr(errors, name)
                told = [object() for _ in values]
                for error in (made(*told), made(**dict(zip(values, told)))):
                    self.assertEqual(vars(error), dict(zip(values, told)))

    def test_values_are_kept_whatever_is_handed_in(self):
        for name, values in VALUES.items():
            for thing in odd_things():
                error = getattr(errors, name)(*[thing] * len(values))
                for value in values:
                    self.assertIs(getattr(error, value), thing)

    def test_each_is_raised_and_caught_by_name(self):
        for name, values in VALUES.items():
            made = getattr(errors, name)
            for caught in (made, errors.WalkError, ValueError):
                with self.assertRaises(caught):
                    raise made(*[None] * len(values))
            self.assertIsInstance(str(made(*[10 ** 399] * len(values))), str)


if __name__ == "__main__":
    unittest.main()
