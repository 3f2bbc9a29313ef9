"""The refusals: how their classes stand, and their fields."""

import inspect
import unittest

from oncedoor import errors

WITHOUT_FIELD = (
    "NoDeed", "NoKey", "NoName", "Other", "NoRow", "NoAsk", "Late", "Down", "Up", "Unsafe",
    "NoNumber", "NoWay", "NoLine",
)
WITH_FIELD = {"NoChange": "name", "NoJournal": "line", "Busy": "number", "NoHouse": "house", "NoRows": "row"}


class Errors(unittest.TestCase):

    def test_door_error_stands_under_value_error(self):
        self.assertEqual(errors.DoorError.__bases__, (ValueError,))

    def test_each_refusal_stands_straight_under_door_error(self):
        for name in WITHOUT_FIELD + tuple(WITH_FIELD):
            with self.subTest(name):
                self.assertEqual(getattr(errors, name).__bases__, (errors.DoorError,))

    def test_no_refusal_stands_under_another_one(self):
        refusals = [getattr(errors, name) for name in WITHOUT_FIELD + tuple(WITH_FIELD)]
        for one in refusals:
            for other in refusals:
                with self.subTest(f"{one.__name__}, {other.__name__}"):
                    self.assertEqual(issubclass(one, other), one is other)

    def test_there_is_no_other_class(self):
        classes = [name for name, thing in vars(errors).items() if inspect.isclass(thing)]
        self.assertEqual(sorted(classes), sorted(WITHOUT_FIELD + tuple(WITH_FIELD) + ("DoorError",)))

    def test_those_without_a_field_are_raised_with_or_without_words(self):
        for name in WITHOUT_FIELD + ("DoorError",):
            with self.subTest(name):
                with self.assertRaises(errors.DoorError):
                    raise getattr(errors, name)
                with self.assertRaises(ValueError):
                    raise getattr(errors, name)("words")

    def test_fields_are_set_when_the_error_is_made(self):
        for name, field in WITH_FIELD.items():
            for value in ("ann", 0, 17):
                with self.subTest(name, value=value):
                    self.assertEqual(getattr(getattr(errors, name)(value), field), value)

    def test_fields_are_each_object_s_own(self):
        for name, field in WITH_FIELD.items():
            with self.subTest(name):
                one = getattr(errors, name)("ann")
                getattr(errors, name)("bo")
                self.assertEqual(getattr(one, field), "ann")

    def test_a_raised_refusal_keeps_its_field(self):
        for name, field in WITH_FIELD.items():
            with self.subTest(name):
                with self.assertRaises(errors.DoorError) as caught:
                    raise getattr(errors, name)("ann")
                self.assertEqual(getattr(caught.exception, field), "ann")


if __name__ == "__main__":
    unittest.main()
