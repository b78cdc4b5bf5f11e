"""[3]: the refusals, their places under DayError and their field `what`."""

import unittest

from kindsofday import errors

REFUSALS = (
    "NoPlan", "NoRow", "NoFact", "NoThing", "Twice", "NoGroup",
    "NoMeasure", "NoWatch", "NoTime", "NoText", "NoDeskRow",
)

VALUES = (
    "dimensions", "", None, 0, -1, 10 ** 60, ("ware", None), ("ware", "ax"),
    ("kind", "ware", "ax", 3, ("red", 4)), ("forget", "f1"),
)


class Refusals(unittest.TestCase):

    def test_day_error_stands_straight_under_value_error(self):
        self.assertEqual(errors.DayError.__bases__, (ValueError,))

    def test_each_stands_straight_under_day_error(self):
        for name in REFUSALS:
            with self.subTest(name):
                self.assertEqual(getattr(errors, name).__bases__, (errors.DayError,))

    def test_each_is_a_class_of_its_own(self):
        classes = [getattr(errors, name) for name in REFUSALS]
        for one in classes:
            above = [other for other in classes if issubclass(one, other)]
            self.assertEqual(above, [one])

    def test_each_is_defined_under_its_own_name_in_the_file(self):
        for name in REFUSALS + ("DayError",):
            self.assertEqual(getattr(errors, name).__name__, name)
            self.assertEqual(getattr(errors, name).__module__, "kindsofday.errors")

    def test_no_other_refusal_is_there(self):
        found = [
            name for name, value in vars(errors).items()
            if isinstance(value, type) and issubclass(value, errors.DayError)
        ]
        self.assertEqual(sorted(found), sorted(REFUSALS + ("DayError",)))

    def test_what_by_place(self):
        for name in REFUSALS + ("DayError",):
            for value in VALUES:
                with self.subTest(name, value=value):
                    self.assertEqual(getattr(errors, name)(value).what, value)

    def test_what_by_name(self):
        for name in REFUSALS + ("DayError",):
            for value in VALUES:
                with self.subTest(name, value=value):
                    self.assertEqual(getattr(errors, name)(what=value).what, value)

    def test_what_is_the_very_value(self):
        # A tuple with one member must not be taken for a list of arguments.
        self.assertEqual(errors.NoRow(("a",)).what, ("a",))
        self.assertIs(type(errors.NoTime(7).what), int)

    def test_made_with_just_one_value(self):
        for name in REFUSALS + ("DayError",):
            with self.subTest(name):
                self.assertRaises(TypeError, getattr(errors, name))
                self.assertRaises(TypeError, getattr(errors, name), 1, 2)

    def test_two_of_them_keep_their_own(self):
        one, two = errors.NoFact("one"), errors.NoFact("two")
        self.assertEqual((one.what, two.what), ("one", "two"))

    def test_each_tells_the_name_of_its_class(self):
        for name in REFUSALS + ("DayError",):
            self.assertEqual(getattr(errors, name)("ax").name, name)

    def test_caught_as_day_error(self):
        for name in REFUSALS:
            with self.assertRaises(errors.DayError) as caught:
                raise getattr(errors, name)(name)
            self.assertEqual(caught.exception.what, name)


if __name__ == "__main__":
    unittest.main()
