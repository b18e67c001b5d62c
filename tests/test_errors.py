"""[2] The refusals: their classes, and the values that they bear."""

import copy
import pickle
import unittest

from standviews import errors
from tests.things import anything

WITH_VALUES = {"NoDeal": "at", "NoPerson": "person", "NoWatcher": "w", "NoText": "row", "NoLetter": "i"}
WITHOUT = ("NoPlan", "NoPiece", "NoRight", "NoQuestion", "Full", "NoMoment", "NoPaper", "NoEntry", "NoScript", "NoLine")


class Classes(unittest.TestCase):
    def test_view_error_stands_under_value_error(self):
        self.assertEqual(errors.ViewError.__bases__, (ValueError,))

    def test_all_stand_straight_under_view_error(self):
        for name in [*WITH_VALUES, *WITHOUT]:
            with self.subTest(name):
                self.assertEqual(getattr(errors, name).__bases__, (errors.ViewError,))

    def test_all_are_defined_there(self):
        for name in ["ViewError", *WITH_VALUES, *WITHOUT]:
            with self.subTest(name):
                made = getattr(errors, name)
                self.assertEqual((made.__name__, made.__module__), (name, "standviews.errors"))

    def test_there_are_no_others(self):
        found = {name for name in vars(errors) if not name.startswith("_")}
        self.assertEqual(found, {"ViewError", *WITH_VALUES, *WITHOUT})


class Values(unittest.TestCase):
    def test_the_value_is_the_very_thing_handed_in(self):
        for name, value in WITH_VALUES.items():
            for thing in anything():
                with self.subTest(name):
                    error = getattr(errors, name)(thing)
                    self.assertIs(getattr(error, value), thing)
                    self.assertEqual(vars(error).keys(), {value})

    def test_the_value_is_handed_in_by_its_place_and_must_be(self):
        for name in WITH_VALUES:
            with self.subTest(name):
                self.assertRaises(TypeError, getattr(errors, name))
                self.assertRaises(TypeError, getattr(errors, name), 1, 2)

    def test_those_without_a_value_are_made_of_nothing(self):
        for name in WITHOUT:
            with self.subTest(name):
                self.assertEqual(vars(getattr(errors, name)()), {})

    def test_any_can_be_shown_whatever_its_value_is(self):
        for name in WITH_VALUES:
            for thing in anything():
                with self.subTest(name):
                    self.assertIs(type(str(getattr(errors, name)(thing))), str)

    def test_a_copy_bears_the_value(self):
        for name, value in WITH_VALUES.items():
            with self.subTest(name):
                error = getattr(errors, name)((3, "a"))
                for other in (copy.copy(error), pickle.loads(pickle.dumps(error))):
                    self.assertEqual(getattr(other, value), (3, "a"))

    def test_each_is_caught_as_view_error(self):
        for name in WITH_VALUES:
            with self.subTest(name), self.assertRaises(errors.ViewError):
                raise getattr(errors, name)(0)
        for name in WITHOUT:
            with self.subTest(name), self.assertRaises(errors.ViewError):
                raise getattr(errors, name)()


if __name__ == "__main__":
    unittest.main()
