"""Points 2 and 29: feastwheel.dated."""

import inspect
import math

from feastwheel.calendars import Moon, Sun
from feastwheel.changes import Change
from feastwheel.dated import dated
from feastwheel.errors import NoCycle, NoNumber
from feastwheel.measures import Measure
from helper import BELOW_ONE, FAR, FOURTH, GREGORIAN, LONG_TERMS, LONGEST, TWELVE, RoundCase, days_of, holds
from words import says_dated

OLD = Sun(0, TWELVE, 2, [FOURTH])
NEW = Sun(2, TWELVE, 2, GREGORIAN)
CHANGE = Change(OLD, NEW, 578103)
LUNAR = Moon(12, Measure(29, [(1, 1, 0, 2)]), Measure(12, [(1, 7, 0, 19)]))
SMALL = [
    Sun(0, [3, 0, 2], 2, [FOURTH]),
    Sun(-17, [3, 4], 1, [(-1, 1, 0, 3), (1, 1, 0, 2)]),
    Sun(10 ** 50, [1]),
    Moon(5, Measure(3, [(1, 1, 0, 2)]), Measure(2, [(1, 1, 1, 3)])),
    Moon(-9, Measure(2), Measure(3)),
]


class Interface(RoundCase):
    def test_names_and_arguments(self):
        told = inspect.signature(dated).parameters
        self.assertEqual(list(told), ["calendar", "month", "day", "step", "rest"])
        self.assertEqual([told[name].default for name in list(told)[1:]], [None, None, 1, 0])


class DayByDay(RoundCase):
    def check(self, calendar, wanted):
        told = dated(calendar, *wanted)
        self.assert_round(told)
        years, days = calendar.cycle()
        size = math.lcm(years, wanted[2]) // years * days
        self.assertEqual(told[0], size)
        for first in (-7, 10 ** 40):
            asked = [says_dated(calendar, day, wanted) for day in range(first, first + size)]
            self.assertEqual([holds(told, day) for day in range(first, first + size)], asked)

    def test_months_and_days_told_or_left_out(self):
        for calendar in SMALL:
            for month in (None, 1, 2, 3):
                for day in (None, 1, 2, 3, 4, -1, -2, -3, -4):
                    with self.subTest(calendar=calendar.shown(), month=month, day=day):
                        self.check(calendar, (month, day, 1, 0))

    def test_steps_and_rests(self):
        for calendar in SMALL:
            for step in (1, 2, 3, 4, 5):
                for rest in (0, 1, -1, step - 1, step, step + 2, -7, FAR, -FAR):
                    with self.subTest(calendar=calendar.shown(), step=step, rest=rest):
                        self.check(calendar, (1, -1, step, rest))
                        self.check(calendar, (None, 2, step, rest))

    def test_a_cycle_of_years(self):
        self.check(OLD, (2, 29, 1, 0))
        self.check(OLD, (None, -1, 6, 1))
        self.check(LUNAR, (13, -1, 1, 0))
        self.check(LUNAR, (1, 1, 3, 2))


class Written(RoundCase):
    def test_a_day_of_each_fourth_year(self):
        self.assertEqual(dated(OLD, 2, 29), (1461, 1 << 59))
        self.assertEqual(dated(OLD, 1, 1), (1461, 1 | 1 << 366 | 1 << 731 | 1 << 1096))

    def test_what_is_left_out(self):
        self.assertEqual(dated(OLD), (1461, (1 << 1461) - 1))
        self.assertEqual(days_of(dated(OLD, 1), 0, 366), list(range(31)))
        self.assertEqual(days_of(dated(OLD, day=1), 0, 92), [0, 31, 60, 91])
        self.assertEqual(days_of(dated(OLD, day=-1), 0, 92), [30, 59, 90])
        self.assertEqual(dated(OLD, 2, 29, 1), dated(OLD, 2, 29))
        self.assertEqual(dated(OLD, None, None, 1, 5), dated(OLD))

    def test_counted_from_the_end_of_the_month(self):
        self.assertEqual(days_of(dated(OLD, 2, -1), 0, 800), [59, 424, 789])
        self.assertEqual(days_of(dated(OLD, 2, -29), 0, 1500), [31, 1492])
        self.assertEqual(days_of(dated(OLD, 1, -31), 0, 500), [0, 366])

    def test_steps(self):
        self.assertEqual(dated(OLD, 1, 1, 2, 1), (1461, 1 << 366 | 1 << 1096))
        self.assertEqual(dated(OLD, 1, 1, 4, -3), (1461, 1 << 366))
        self.assertEqual(dated(OLD, 1, 1, 4, 401), (1461, 1 << 366))
        self.assertEqual(dated(OLD, 1, 1, 3, 0)[0], 3 * 1461)
        self.assertEqual(dated(OLD, 2, 29, 4, 1), (1461, 0))
        self.assertEqual(dated(Sun(0, [10]), 1, 1, 5, 7), (50, 1 << 20))

    def test_the_start_of_the_calendar(self):
        self.assertEqual(dated(Sun(3, [10]), 1, 1), (10, 1 << 3))
        self.assertEqual(dated(Sun(-3, [10]), 1, 1), (10, 1 << 7))
        self.assertEqual(dated(Sun(10 * FAR + 4, [10]), 1, 1), (10, 1 << 4))

    def test_a_month_or_a_day_that_no_date_has(self):
        for month, day in ((13, None), (13, 1), (FAR, -1), (2, 30), (None, 32), (None, -32), (2, -30), (None, FAR),
                           (1, -FAR), (FAR, FAR)):
            with self.subTest(month=month, day=day):
                self.assertEqual(dated(OLD, month, day), (1461, 0))
        self.assertEqual(dated(Sun(0, [3, 0]), 2), (3, 0))
        self.assertEqual(dated(Sun(0, [3, 0]), 2, -1), (3, 0))

    def test_a_month_that_only_some_years_have(self):
        told = dated(LUNAR, 13, 1)
        self.assertEqual(told[0], 13865)
        self.assertEqual(bin(told[1]).count("1"), 14)

    def test_long_rounds(self):
        told = dated(NEW, 2, 29)
        self.assertEqual(told[0], 146097)
        self.assertEqual(bin(told[1]).count("1"), 97)
        self.assertEqual(dated(NEW), (146097, (1 << 146097) - 1))
        self.assertEqual(dated(Sun(0, [1]), 1, 1, LONGEST, -1), (LONGEST, 1 << 149999))
        self.assertEqual(dated(Sun(0, [1000] * 15, 1), 15, -1, 10, 9), (LONGEST, 1 << 149999))


class Refused(RoundCase):
    def assert_no_number(self, *given):
        with self.subTest(given=given[1:]):
            with self.assertRaises(NoNumber):
                dated(*given)

    def test_months_days_and_steps(self):
        for calendar in (OLD, LUNAR):
            for number in BELOW_ONE:
                self.assert_no_number(calendar, number)
                self.assert_no_number(calendar, number, 5)
                self.assert_no_number(calendar, None, None, number)
                self.assert_no_number(calendar, 1, 1, number, 3)
            self.assert_no_number(calendar, None, 0)
            self.assert_no_number(calendar, 5, 0)

    def test_no_number_ahead_of_no_cycle(self):
        self.assert_no_number(CHANGE, 0)
        self.assert_no_number(CHANGE, None, 0)
        self.assert_no_number(CHANGE, None, None, 0)

    def test_no_number_ahead_of_too_long(self):
        endless = Sun(0, TWELVE, 2, LONG_TERMS)
        self.assert_no_number(endless, 0)
        self.assert_no_number(endless, None, 0)
        self.assert_no_number(endless, None, None, 0)
        self.assert_no_number(OLD, 0, None, FAR)
        self.assert_no_number(OLD, None, 0, FAR)

    def test_no_cycle(self):
        for given in ((), (1,), (1, 1), (13, 40), (1, 1, 3, 2), (1, 1, FAR)):
            with self.subTest(given=given):
                with self.assertRaises(NoCycle):
                    dated(CHANGE, *given)

    def test_too_long(self):
        self.assert_too_long(2 * 146097, dated, NEW, 2, 29, 800)
        self.assert_too_long(3 * 146097, dated, NEW, None, None, 3)
        self.assert_too_long(LONGEST + 1, dated, Sun(0, [1]), 1, 1, LONGEST + 1)
        self.assert_too_long(1461 * 103, dated, OLD, 13, 40, 103)
        self.assert_too_long(1461 * (FAR // 4), dated, OLD, 1, 1, FAR)
        self.assert_too_long(3 * (10 ** 99 + 289), dated, Sun(0, [3]), None, None, 10 ** 99 + 289)

    def test_too_long_by_the_cycle(self):
        endless = Sun(0, TWELVE, 2, LONG_TERMS)
        self.assert_too_long(endless.cycle()[1], dated, endless)
        endless = Moon(0, Measure(29, LONG_TERMS), Measure(12, LONG_TERMS[::-1]))
        self.assert_too_long(endless.cycle()[1], dated, endless, 1, 1)
