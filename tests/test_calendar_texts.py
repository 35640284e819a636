"""Points 2, 45 and 46: feastwheel.calendar_texts."""

import inspect
import unittest

from feastwheel import calendar_texts
from feastwheel.calendar_texts import read_calendar
from feastwheel.calendars import Moon, Sun
from feastwheel.errors import NoMeasure, NoText
from feastwheel.measures import Measure
from helper import FAR, FOURTH, GREGORIAN, LONG_TERMS, NO_TEXTS, TWELVE

SIXTY = 10 ** 60 - 1
# Each text with the calendar that it tells.
TOLD = {
    "sun 0 365": Sun(0, [365]),
    "sun -7 1": Sun(-7, [1]),
    "sun 12 10,0,20": Sun(12, [10, 0, 20]),
    "sun 0 31,28 leap 2 +1,3,4": Sun(0, [31, 28], 2, [FOURTH]),
    "sun 0 31,28 leap 1 +1,3,4": Sun(0, [31, 28], 1, [FOURTH]),
    "sun 2 31,28,31,30,31,30,31,31,30,31,30,31 leap 2 +1,3,4 -1,99,100 +1,399,400": Sun(2, TWELVE, 2, GREGORIAN),
    "sun -5 3,4 leap 1 -1,0,2 -1,2,3 +0,0,1": Sun(-5, [3, 4], 1, [(-1, 1, 0, 2), (-1, 1, 2, 3), (1, 0, 0, 1)]),
    "moon 12 29 +1,0,2 / 12 +7,0,19": Moon(12, Measure(29, [(1, 1, 0, 2)]), Measure(12, [(1, 7, 0, 19)])),
    "moon 0 29 / 12": Moon(0, Measure(29), Measure(12)),
    "moon -3 30 -1,0,2 / 12": Moon(-3, Measure(30, [(-1, 1, 0, 2)]), Measure(12)),
    "moon -3 30 / 13 -12,5,19 +0,0,1": Moon(-3, Measure(30), Measure(13, [(-1, 12, 5, 19), (1, 0, 0, 1)])),
}
TOLD[f"sun {SIXTY} 1000"] = Sun(SIXTY, [1000])
TOLD[f"sun -{SIXTY} 1000"] = Sun(-SIXTY, [1000])

NO_FORM = [
    "", " ", "sun", "sun 0", "sun ", "sun 0 ", "moon", "moon 0", "moon 0 29", "365", "0 365", "leap", "/",
    # Blanks and other signs between the words.
    " sun 0 365", "sun 0 365 ", "sun  0 365", "sun 0  365", "sun\t0 365", "sun 0\n365", "sun 0 365\n", "\nsun 0 365",
    "sun 0 31,28 leap 2  +1,3,4", "sun 0 31,28 leap 2 +1,3,4 ", "moon 0 29  / 12", "moon 0 29 /  12", "moon 0 29 / 12 ",
    "moon  0 29 / 12", " moon 0 29 / 12",
    # Other words.
    "Sun 0 365", "SUN 0 365", "suns 0 365", "stars 0 365", "stars 0 29 / 12", "Moon 0 29 / 12", "moon 0 365",
    "sun 0 29 / 12", "sun 0 365 12",
    # Lengths.
    "sun 0 31,", "sun 0 ,31", "sun 0 31,,28", "sun 0 31, 28", "sun 0 31;28", "sun 0 31 28", "sun 0 +31", "sun 0 [31]",
    # Leap without a month, without terms, without its word.
    "sun 0 31,28 leap", "sun 0 31,28 leap 2", "sun 0 31,28 leap 2 ", "sun 0 31,28 leap +1,3,4", "sun 0 31,28 2 +1,3,4",
    "sun 0 31,28 +1,3,4", "sun 0 31,28 Leap 2 +1,3,4", "sun 0 31,28 leap leap 2 +1,3,4", "sun 0 leap 2 +1,3,4",
    "sun 0 31,28 leap 2,1 +1,3,4", "sun 0 31,28 leap x +1,3,4",
    # Terms.
    "sun 0 31,28 leap 2 1,3,4", "sun 0 31,28 leap 2 +1,3", "sun 0 31,28 leap 2 +1,3,4,5", "sun 0 31,28 leap 2 +1,,4",
    "sun 0 31,28 leap 2 + 1,3,4", "sun 0 31,28 leap 2 ++1,3,4", "sun 0 31,28 leap 2 +", "sun 0 31,28 leap 2 -",
    "sun 0 31,28 leap 2 +1,3,4 x", "sun 0 31,28 leap 2 +1,3,4 leap", "sun 0 31,28 leap 2 +1,3,4, -1,3,4",
    "sun 0 31,28 leap 2 +1,3,4-1,3,4", "sun 0 31,28 leap 2 *1,3,4", "sun 0 31,28 leap 2 +01,3,4",
    "sun 0 31 leap 1 +1,3,-0", "sun 0 31,28 leap 2 +1,+3,4",
    # Moon calendars.
    "moon 0 29 /", "moon 0 / 12", "moon / 12", "moon 29 / 12", "moon 0 29 12", "moon 0 29 / 12 /", "moon 0 29 / / 12",
    "moon 0 29 /12", "moon 0 29/ 12", "moon 0 29/12", "moon 0 29 + / 12", "moon 0 29 / 12 7,0,19",
    "moon 0 29 1,0,2 / 12", "moon 0 29 12 / 12", "moon 0 29,30 / 12", "moon 0 29 leap 2 +1,0,2 / 12",
    "moon 0 / 29 / 12", "moon x 29 / 12", "moon 0 x / 12", "moon 0 29 / x", "moon 0 +1,0,2 / 12", "moon 0 29 / +1,0,2",
    # Numbers.
    "sun 00 365", "sun -0 365", "sun +1 365", "sun 0 0365", "sun 0 00", "sun 0 -0", "sun 0 365.", "sun 0x1 365",
    "sun - 365", "sun 1e3 365", "sun 1_0 365", "sun --1 365", "sun 0 31,28 leap 02 +1,3,4",
    "sun 0 31,28 leap +2 +1,3,4", "moon 00 29 / 12", "moon 0 029 / 12", "moon 0 29 / 012", "moon 0 29 / -0",
    f"sun {SIXTY + 1} 365", f"sun -{SIXTY + 1} 365", f"sun 0 {SIXTY + 1}", f"sun 0 1 leap {SIXTY + 1} +1,3,4",
    f"sun 0 1 leap 1 +1,{SIXTY + 1},4", f"moon 0 {SIXTY + 1} / 12", f"moon {SIXTY + 1} 29 / 12",
]
NO_CALENDAR = [
    # Lengths of months.
    "sun 0 0", "sun 0 -1", "sun 0 31,-1", "sun 0 1001", "sun 0 0,0,0", f"sun 0 {SIXTY}", f"sun 0 -{SIXTY}",
    "sun 0 " + ",".join(["1"] * 21),
    # No such month.
    "sun 0 31,28 leap 3 +1,3,4", "sun 0 31,28 leap 0 +1,3,4", "sun 0 31,28 leap -1 +1,3,4",
    f"sun 0 31 leap {SIXTY} +1,3,4",
    # No terms.
    "sun 0 31 leap 1 +5,3,4", "sun 0 31 leap 1 +-1,3,4", "sun 0 31 leap 1 --1,3,4", "sun 0 31 leap 1 +1,4,4",
    "sun 0 31 leap 1 +1,-1,4", "sun 0 31 leap 1 +1,0,0", "sun 0 31 leap 1 +0,0,0", "sun 0 31 leap 1 +1,3,-4",
    "sun 0 31 leap 1 +1,3,1001", f"sun 0 31 leap 1 +{SIXTY},{SIXTY},{SIXTY}",
    "sun 0 31 leap 1" + " +1,3,4" * 7,
    # Days that could fall below none.
    "sun 0 9,0 leap 2 -1,0,2", "sun 0 1 leap 1 -1,0,2", "sun 0 1,1 leap 1 -1,0,2 -1,0,2",
    # Measures of a moon calendar.
    "moon 0 0 / 12", "moon 0 -1 / 12", "moon 0 1001 / 12", "moon 0 29 / 0", "moon 0 29 / 21", "moon 0 29 / -3",
    "moon 0 20001 / 12", "moon 0 29 / 20001", "moon 0 1 -1,0,2 / 12", "moon 0 29 / 1 -0,0,1", "moon 0 0 +1,0,1 / 12",
    "moon 0 29" + " +1,0,2" * 7 + " / 12", "moon 0 29 / 12" + " +1,0,2" * 7, "moon 0 29 +1,2,2 / 12",
    "moon 0 29 / 12 +3,0,2", f"moon 0 {SIXTY} / 12", f"moon 0 29 / -{SIXTY}",
]


class CalendarCase(unittest.TestCase):
    def assert_same(self, one, other):
        """Both have the same dates, near and far."""
        self.assertIsInstance(one, Sun if isinstance(other, Sun) else Moon)
        for day in list(range(-50, 50)) + [578102, 578103, FAR, -FAR, 10 ** 60, 7 - 10 ** 59]:
            self.assertEqual(one.date_of(day), other.date_of(day))
            self.assertEqual(one.day_of(other.date_of(day)), day)
        for year in (-FAR, -400, -1, 0, 1, 3, 4, 100, 1900, 2000, FAR):
            self.assertEqual(one.lengths(year), other.lengths(year))
            self.assertEqual(one.year_start(year), other.year_start(year))
        self.assertEqual(one.cycle(), other.cycle())


class Read(CalendarCase):
    def test_names_and_arguments(self):
        self.assertEqual(list(inspect.signature(calendar_texts.read_calendar).parameters), ["text"])

    def test_each_form(self):
        for text, calendar in TOLD.items():
            with self.subTest(text):
                self.assert_same(read_calendar(text), calendar)

    def test_what_is_read_is_shown_as_it_stood(self):
        for text in TOLD:
            with self.subTest(text):
                self.assertEqual(read_calendar(text).shown(), text)

    def test_a_text_of_another_form(self):
        for text in NO_FORM:
            with self.subTest(text):
                with self.assertRaises(NoText):
                    read_calendar(text)

    def test_what_is_no_text(self):
        for given in NO_TEXTS:
            with self.assertRaises(NoText):
                read_calendar(given)

    def test_a_text_of_the_form_that_is_no_calendar(self):
        for text in NO_CALENDAR:
            with self.subTest(text):
                with self.assertRaises(NoMeasure):
                    read_calendar(text)

    def test_the_form_is_looked_at_ahead_of_the_measures(self):
        for text in ("sun 0 -5 leap 1 x", "sun 0 0 leap 9", "sun 0 31 leap 9 +1,0,0 +1,0", "moon 0 -5 / 12 x",
                     "moon 0 0 / x", "moon 0 29 +1,0,0 / 012", "moon 0 29 / 0 /", "sun 0 1001 "):
            with self.subTest(text):
                with self.assertRaises(NoText):
                    read_calendar(text)

    def test_the_edges_of_what_is_a_calendar(self):
        for text in ("sun 0 1000", "sun 0 0,1", "sun 0 " + ",".join(["1000"] * 20), "sun 0 1,1 leap 2 -1,0,2",
                     "sun 0 31 leap 1" + " +1,3,4" * 6, "sun 0 9 leap 1 +0,0,1 +1,0,1 +1000,999,1000",
                     "moon 0 1000 / 20", "moon 0 1 / 1", "moon 0 2 -1,0,2 / 2 -1,0,2"):
            with self.subTest(text):
                self.assertEqual(read_calendar(text).shown(), text)

    def test_four_thousand_signs(self):
        text = "sun 0 " + ",".join(["1"] * 1997)
        for given, refusal in ((text + "1", NoMeasure), (text + "11", NoText), (text + ",1", NoText)):
            with self.subTest(signs=len(given)):
                self.assertIn(len(given), (4000, 4001))
                with self.assertRaises(refusal):
                    read_calendar(given)
        with self.assertRaises(NoText):
            read_calendar(text + ",1" * 10 ** 6)


class ShownAndReadAgain(CalendarCase):
    def test_with_the_same_dates_and_as_the_same_text(self):
        calendars = [
            Sun(0, [31, 28], 2), Sun(5, [1, 2, 3], 3, []), Sun(-10 ** 59, TWELVE, 2, GREGORIAN),
            Sun(1, [40, 50], 2, LONG_TERMS), Sun(3, [0] * 19 + [5]), Sun(0, [3, 7], 1, [FOURTH, FOURTH]),
            Moon(-1, Measure(29, LONG_TERMS), Measure(12, LONG_TERMS[::-1])),
            Moon(10 ** 60 - 1, Measure(1), Measure(1)),
            Moon(0, Measure(30, []), Measure(12, [(-1, 0, 0, 1)])),
        ]
        for calendar in calendars + list(TOLD.values()):
            with self.subTest(calendar.shown()):
                again = read_calendar(calendar.shown())
                self.assert_same(again, calendar)
                self.assertEqual(again.shown(), calendar.shown())

    def test_the_texts_of_the_document(self):
        self.assertEqual(Sun(0, [31, 28], 2, [FOURTH]).shown(), "sun 0 31,28 leap 2 +1,3,4")
        moon = Moon(12, Measure(29, [(1, 1, 0, 2)]), Measure(12, [(1, 7, 0, 19)]))
        self.assertEqual(moon.shown(), "moon 12 29 +1,0,2 / 12 +7,0,19")
        self.assert_same(read_calendar("moon 12 29 +1,0,2 / 12 +7,0,19"), moon)

    def test_a_sun_calendar_without_terms(self):
        self.assertEqual(Sun(0, [31, 28], 2).shown(), "sun 0 31,28")
        self.assertEqual(read_calendar(Sun(0, [31, 28], 2).shown()).shown(), "sun 0 31,28")

    def test_the_order_of_lengths_and_terms(self):
        for text in ("sun 0 3,1,2 leap 1 +1,2,3 -0,0,1 +1,0,3", "sun 0 3,1,2 leap 1 +1,0,3 -0,0,1 +1,2,3",
                     "moon 0 9 +1,2,3 +1,0,3 / 3 +1,1,2 +1,0,2"):
            self.assertEqual(read_calendar(text).shown(), text)
