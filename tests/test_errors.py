"""Point 3 and the interface of feastwheel.errors."""

import unittest

from feastwheel import errors
from feastwheel.errors import FeastError, InGap, NoDate, NoName, TooLong

# How each refusal is made: the interface tells the fields, the words are free.
MADE = {
    "NoNumber": ("words",),
    "TooLong": (150001,),
    "NoMeasure": ("words",),
    "NoDate": ((1, 2, 3),),
    "InGap": ((1, 2, 3), 4),
    "NoChange": ("words",),
    "NoCycle": ("words",),
    "NoText": ("words",),
    "NoRule": ("words",),
    "NoName": ("easter",),
    "NoRow": ("words",),
}


class ErrorClasses(unittest.TestCase):
    def test_feast_error_stands_under_value_error(self):
        self.assertEqual(FeastError.__bases__, (ValueError,))

    def test_each_refusal_stands_straight_under_feast_error(self):
        for name in MADE:
            with self.subTest(name):
                self.assertEqual(getattr(errors, name).__bases__, (FeastError,))

    def test_there_are_no_other_classes(self):
        found = [name for name, value in vars(errors).items() if isinstance(value, type)]
        self.assertEqual(sorted(found), sorted(list(MADE) + ["FeastError"]))

    def test_no_refusal_is_taken_by_the_name_of_another(self):
        for name, given in MADE.items():
            for other in MADE:
                with self.subTest(name=name, other=other):
                    error = getattr(errors, name)(*given)
                    self.assertEqual(isinstance(error, getattr(errors, other)), name == other)

    def test_value_error_and_feast_error_take_each(self):
        for name, given in MADE.items():
            for taken in (ValueError, FeastError):
                with self.subTest(name=name, taken=taken):
                    with self.assertRaises(taken):
                        raise getattr(errors, name)(*given)
        with self.assertRaises(ValueError):
            raise FeastError("words")


class ErrorFields(unittest.TestCase):
    def test_too_long_has_the_size_needed(self):
        self.assertEqual(TooLong(10 ** 99).needed, 10 ** 99)
        self.assertEqual(TooLong(needed=150001).needed, 150001)

    def test_no_date_has_the_date(self):
        self.assertEqual(NoDate((1582, 10, 77)).date, (1582, 10, 77))

    def test_in_gap_has_the_date_and_the_day(self):
        error = InGap((1582, 10, 9), 578103)
        self.assertEqual(error.date, (1582, 10, 9))
        self.assertEqual(error.day, 578103)

    def test_no_name_has_the_name(self):
        self.assertEqual(NoName("easter").name, "easter")
        self.assertEqual(NoName("").name, "")

    def test_each_error_has_words(self):
        for name, given in MADE.items():
            with self.subTest(name):
                self.assertNotEqual(str(getattr(errors, name)(*given)), "")
