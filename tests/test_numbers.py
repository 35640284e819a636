"""Points 2, 43 and 44: feastwheel.numbers."""

import inspect
import unittest

from feastwheel import numbers
from feastwheel.errors import NoText
from feastwheel.numbers import date_text, read_date, read_number
from helper import FAR, NO_TEXTS


class Interface(unittest.TestCase):
    def test_names_and_arguments(self):
        for name, arguments in {"read_number": ["text"], "read_date": ["text"], "date_text": ["date"]}.items():
            with self.subTest(name):
                self.assertEqual(list(inspect.signature(getattr(numbers, name)).parameters), arguments)


class RefusingCase(unittest.TestCase):
    def assert_refused_by(self, call, text):
        # The longest numbers can't be shown, so they are no part of the subtest's name.
        with self.subTest(text=repr(text)[:80] if isinstance(text, str) else type(text)):
            with self.assertRaises(NoText):
                call(text)


class ReadNumber(RefusingCase):
    def assert_refused(self, text):
        self.assert_refused_by(read_number, text)

    def test_ordinary_numbers(self):
        for number in list(range(-120, 121)) + [999, 1000, -1000, 150000, 1234567890]:
            with self.subTest(number):
                told = read_number(str(number))
                self.assertEqual(told, number)
                self.assertIs(type(told), int)

    def test_one_to_sixty_figures(self):
        for many in range(1, 61):
            for text in ("9" * many, "1" + "0" * (many - 1), ("1234567890" * 6)[:many]):
                with self.subTest(text):
                    self.assertEqual(read_number(text), int(text))
                    self.assertEqual(read_number("-" + text), -int(text))

    def test_more_than_sixty_figures(self):
        for many in (61, 62, 100, 5000, 100000):
            self.assert_refused("1" + "0" * (many - 1))
            self.assert_refused("-" + "9" * many)

    def test_nought(self):
        self.assertEqual(read_number("0"), 0)
        for text in ("-0", "00", "-00", "000", "+0", "0" * 60, "0" * 61):
            self.assert_refused(text)

    def test_a_nought_ahead(self):
        for text in ("01", "007", "-01", "-05", "0" + "1" * 59, "010"):
            self.assert_refused(text)

    def test_a_plus_and_other_signs(self):
        for text in ("+5", "+", "--5", "-+5", "5-", "5-5", "1_000", "1,000", "1.0", "1e3", "0x10", "a", "5a", "a5",
                     "-a", "/", "5/", "5:", "~", "*", "(5)", "\"5\"", "'", "1 2"):
            self.assert_refused(text)

    def test_blanks_and_line_ends(self):
        for text in (" 5", "5 ", " ", "- 5", "-5 ", "5\n", "\n5", "0\n", "\n", "\t5", "5\t", "5\r", "-5\n", " 0", "0 "):
            self.assert_refused(text)

    def test_without_signs_and_a_minus_alone(self):
        self.assert_refused("")
        self.assert_refused("-")

    def test_what_is_no_text(self):
        for thing in NO_TEXTS:
            self.assert_refused(thing)


class ReadDate(RefusingCase):
    def assert_refused(self, text):
        self.assert_refused_by(read_date, text)

    def test_the_cases_of_the_document(self):
        self.assertEqual(read_date("-5/03/12"), (-5, 3, 12))
        self.assertEqual(read_date("7/12/104"), (7, 12, 104))
        for text in ("7/3/04", "7/00/04", "7/003/04"):
            self.assert_refused(text)

    def test_years(self):
        for year in (0, 1, -1, 9, 10, 1582, -1582, 10 ** 59, 1 - 10 ** 60):
            told = read_date(f"{year}/01/01")
            self.assertEqual(told, (year, 1, 1))
            self.assertEqual([type(part) for part in told], [int, int, int])
        for year in ("", "-", "-0", "00", "01", "-01", "+1", " 1", "1 ", "1" * 61, "a"):
            self.assert_refused(f"{year}/01/01")

    def test_months_and_days_of_more_or_fewer_figures(self):
        told = {"01": 1, "02": 2, "09": 9, "10": 10, "11": 11, "99": 99, "100": 100, "104": 104, "9" * 60: 10 ** 60 - 1}
        for text, number in told.items():
            self.assertEqual(read_date(f"7/{text}/04"), (7, number, 4))
            self.assertEqual(read_date(f"7/04/{text}"), (7, 4, number))

    def test_months_and_days_that_are_none(self):
        for text in ("", "0", "1", "3", "9", "00", "000", "001", "003", "010", "012", "0100", "-1", "-3", "-01", "-12",
                     "-012", "+3", "+12", "0-", "0a", "0 ", " 1", "1 ", " 12", "12 ", "12\n", "01\n", "0\n", "a",
                     "1" * 61, "0" + "1" * 60):
            self.assert_refused(f"7/{text}/04")
            self.assert_refused(f"7/04/{text}")

    def test_other_forms(self):
        for text in ("", "/", "//", "7", "7/04", "7/04/", "/04/04", "7/04/04/", "7/04/04/04", "/7/04/04", "7-04-04",
                     "7//04", "7 /04/04", "7/04/04 ", " 7/04/04", "7/04/04\n", "\n7/04/04", "7/ 4/04", "04.04.7",
                     "(7, 4, 4)", "/" * 5000):
            self.assert_refused(text)

    def test_what_is_no_text(self):
        for thing in NO_TEXTS:
            self.assert_refused(thing)


class DateText(unittest.TestCase):
    def test_the_cases_of_the_document(self):
        self.assertEqual(date_text((-5, 3, 12)), "-5/03/12")
        self.assertEqual(date_text((7, 12, 104)), "7/12/104")

    def test_ordinary_dates(self):
        told = {(0, 1, 1): "0/01/01", (1582, 10, 4): "1582/10/04", (-1, 9, 10): "-1/09/10", (7, 100, 9): "7/100/09"}
        for date, text in told.items():
            self.assertEqual(date_text(date), text)

    def test_more_than_sixty_figures(self):
        self.assertEqual(date_text((FAR, FAR, FAR)), "/".join([str(FAR)] * 3))
        self.assertEqual(date_text((-FAR, 1, 1)), f"-{FAR}/01/01")

    def test_they_undo_one_another(self):
        for year in (-10 ** 59, -1582, -10, -1, 0, 1, 9, 10, 2026, 10 ** 59):
            for month in (1, 2, 9, 10, 12, 99, 100):
                for day in (1, 9, 10, 31, 104, 1006, 10 ** 59):
                    text = date_text((year, month, day))
                    self.assertEqual(read_date(text), (year, month, day))
                    self.assertEqual(date_text(read_date(text)), text)
