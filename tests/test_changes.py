"""Points 2 and 30 to 33: feastwheel.changes."""

import inspect
import unittest

from feastwheel import changes
from feastwheel.calendars import Calendar, Moon, Sun
from feastwheel.changes import Change, moved
from feastwheel.errors import InGap, NoChange, NoCycle, NoDate
from feastwheel.measures import Measure
from helper import FAR, FOURTH, GREGORIAN, TWELVE

OLD = Sun(0, TWELVE, 2, [FOURTH])
NEW = Sun(2, TWELVE, 2, GREGORIAN)
DAY = 578103
LUNAR = Moon(12, Measure(29, [(1, 1, 0, 2)]), Measure(12, [(1, 7, 0, 19)]))
TENS = Sun(0, [10] * 10)


class ChangeCase(unittest.TestCase):
    def assert_in_gap(self, calendar, date, day):
        with self.subTest(date=date):
            with self.assertRaises(InGap) as taken:
                calendar.day_of(date)
            self.assertEqual(taken.exception.date, date)
            self.assertEqual(taken.exception.day, day)

    def assert_no_date(self, calendar, date):
        with self.subTest(date=date):
            with self.assertRaises(NoDate) as taken:
                calendar.day_of(date)
            self.assertEqual(taken.exception.date, date)

    def assert_no_change(self, old, new, day):
        with self.subTest(day=day):
            with self.assertRaises(NoChange):
                Change(old, new, day)


class Interface(unittest.TestCase):
    def test_names_and_arguments(self):
        self.assertEqual(list(inspect.signature(changes.Change).parameters), ["old", "new", "day"])
        self.assertEqual(list(inspect.signature(changes.moved).parameters), ["date", "one", "other"])
        change = Change(OLD, NEW, DAY)
        for name, arguments in {"date_of": ["day"], "day_of": ["date"], "cycle": []}.items():
            self.assertEqual(list(inspect.signature(getattr(change, name)).parameters), arguments)
        self.assertTrue(issubclass(Change, Calendar))


class TheExample(ChangeCase):
    def setUp(self):
        self.change = Change(OLD, NEW, DAY)

    def test_as_it_stands(self):
        self.assertEqual(self.change.date_of(DAY - 1), (1582, 10, 4))
        self.assertEqual(self.change.date_of(DAY), (1582, 10, 15))
        self.assert_in_gap(self.change, (1582, 10, 9), DAY)
        self.assert_no_date(self.change, (1582, 10, 77))

    def test_dates_of_days_on_either_side(self):
        for day in (-FAR, -1, 0, 59, DAY - 500, DAY - 2, DAY - 1):
            self.assertEqual(self.change.date_of(day), OLD.date_of(day))
        for day in (DAY, DAY + 1, DAY + 500, FAR):
            self.assertEqual(self.change.date_of(day), NEW.date_of(day))

    def test_days_of_dates_on_either_side(self):
        for day in [-FAR, -1, 0, 59, FAR] + list(range(DAY - 800, DAY + 800)):
            self.assertEqual(self.change.day_of(self.change.date_of(day)), day)

    def test_a_later_day_has_a_later_date(self):
        dates = [self.change.date_of(day) for day in range(DAY - 400, DAY + 400)]
        self.assertEqual(dates, sorted(set(dates)))

    def test_the_gap_and_its_edges(self):
        for number in range(5, 15):
            self.assert_in_gap(self.change, (1582, 10, number), DAY)
        self.assertEqual(self.change.day_of((1582, 10, 4)), DAY - 1)
        self.assertEqual(self.change.day_of((1582, 10, 15)), DAY)

    def test_dates_that_no_day_has(self):
        for date in ((1582, 2, 29), (1582, 9, 31), (1582, 10, 0), (1582, 10, -5), (1581, 13, 1), (1500, 2, 30),
                     (1582, 10, 32), (1582, 11, 31), (1582, 13, 1), (1583, 0, 5), (1700, 2, 29), (-FAR, 0, 0),
                     (FAR, 13, 99)):
            self.assert_no_date(self.change, date)
        self.assertEqual(self.change.day_of((1500, 2, 29)), OLD.day_of((1500, 2, 29)))

    def test_no_cycle(self):
        with self.assertRaises(NoCycle):
            self.change.cycle()


class Gaps(ChangeCase):
    def test_any_tuple_between_the_two_dates(self):
        # The last old date is (0, 10, 10), the first new one is (5, 1, 1).
        change = Change(TENS, Sun(-400, [10] * 10), 100)
        self.assertEqual(change.date_of(99), (0, 10, 10))
        self.assertEqual(change.date_of(100), (5, 1, 1))
        for date in ((0, 10, 11), (0, 10, FAR), (0, 11, -5), (0, FAR, 0), (1, -FAR, -FAR), (2, 5, 5), (3, 0, 99),
                     (5, 0, 1), (5, 1, 0), (5, 1, -FAR), (5, -1, 50)):
            self.assert_in_gap(change, date, 100)
        for date in ((0, 10, 0), (0, 0, 5), (0, 9, 11), (5, 1, 11), (5, 2, 0), (5, 11, 1), (-5, 11, 1)):
            self.assert_no_date(change, date)

    def test_other_months_from_the_next_year_on(self):
        change = Change(TENS, Sun(0, [50, 50]), 100)
        self.assertEqual((change.date_of(99), change.date_of(100)), ((0, 10, 10), (1, 1, 1)))
        self.assertEqual((change.day_of((0, 5, 5)), change.day_of((1, 1, 50))), (44, 149))
        for date in ((0, 10, 11), (0, 11, 1), (1, 0, 1), (1, 1, 0)):
            self.assert_in_gap(change, date, 100)
        for date in ((0, 1, 50), (0, 10, 0), (1, 3, 1), (1, 1, 51)):
            self.assert_no_date(change, date)

    def test_the_same_calendar(self):
        change = Change(TENS, TENS, 37)
        for day in range(-150, 150):
            self.assertEqual(change.date_of(day), TENS.date_of(day))
            self.assertEqual(change.day_of(TENS.date_of(day)), day)
        # No date lies between these two, but a tuple of three whole numbers may.
        self.assert_no_date(change, (0, 4, 0))
        self.assert_no_date(change, (0, 4, 11))
        edge = Change(TENS, TENS, 40)
        self.assert_in_gap(edge, (0, 4, 11), 40)
        self.assert_in_gap(edge, (0, 5, 0), 40)
        self.assert_no_date(edge, (0, 4, 0))
        self.assert_no_date(edge, (0, 5, 11))

    def test_far_changes(self):
        for day in (FAR, -FAR):
            change = Change(TENS, Sun(-100, [10] * 10), day)
            self.assertEqual(change.date_of(day - 1), TENS.date_of(day - 1))
            year, month, number = TENS.date_of(day)
            self.assertEqual(change.date_of(day), (year + 1, month, number))
            self.assert_in_gap(change, (year, month, number), day)
            self.assertEqual(change.day_of((year + 1, month, number)), day)


class Refused(ChangeCase):
    def test_the_same_date_twice(self):
        # The new calendar lies one day behind: the date of the day ahead would come again.
        self.assert_no_change(TENS, Sun(1, [10] * 10), 37)
        self.assert_no_change(TENS, Sun(1, [10] * 10), -FAR)

    def test_an_earlier_date(self):
        self.assert_no_change(TENS, Sun(2, [10] * 10), 37)
        self.assert_no_change(NEW, OLD, DAY)
        self.assert_no_change(TENS, Sun(100 * FAR, [10] * 10), 37)

    def test_a_later_date_by_year_or_month_or_day(self):
        self.assertEqual(Change(TENS, Sun(0, [10] * 10), 37).date_of(37), (0, 4, 8))
        self.assertEqual(Change(TENS, Sun(-1, [10] * 10), 37).date_of(37), (0, 4, 9))
        self.assertEqual(Change(TENS, Sun(-10, [10] * 10), 37).date_of(37), (0, 5, 8))
        self.assertEqual(Change(TENS, Sun(-100, [10] * 10), 37).date_of(37), (1, 4, 8))

    def test_years_count_ahead_of_months_and_months_ahead_of_days(self):
        # Ahead it is (0, 10, 10): a greater year with a lesser month and day is later.
        self.assertEqual(Change(TENS, Sun(0, [10] * 10), 100).date_of(100), (1, 1, 1))
        # Ahead it is (1, 1, 1): a lesser year with a greater month and day is earlier.
        self.assert_no_change(TENS, Sun(2, [10] * 10), 101)


class WithinOneAnother(ChangeCase):
    def shifted(self, years):
        return Sun(-100 * years, [10] * 10)

    def test_ten_changes_that_begin_with_a_change(self):
        calendar = TENS
        for number in range(1, 11):
            calendar = Change(calendar, self.shifted(number), 1000 * number + 5)
        self.check_row(calendar)

    def test_ten_changes_that_end_with_a_change(self):
        calendar = self.shifted(10)
        for number in range(10, 0, -1):
            calendar = Change(self.shifted(number - 1), calendar, 1000 * number + 5)
        self.check_row(calendar)

    def check_row(self, calendar):
        dates = [calendar.date_of(day) for day in range(0, 12000)]
        self.assertEqual(dates, sorted(set(dates)))
        self.assertEqual([calendar.day_of(date) for date in dates], list(range(0, 12000)))
        for number in range(1, 11):
            day = 1000 * number + 5
            self.assertEqual(calendar.date_of(day - 1), self.shifted(number - 1).date_of(day - 1))
            self.assertEqual(calendar.date_of(day), self.shifted(number).date_of(day))
            self.assert_in_gap(calendar, self.shifted(number - 1).date_of(day), day)
            self.assert_in_gap(calendar, self.shifted(number - 1).date_of(day + 99), day)
            year = self.shifted(number).date_of(day)[0]
            self.assert_no_date(calendar, (year, 2, 11))
        with self.assertRaises(NoCycle):
            calendar.cycle()

    def test_a_gap_that_a_later_change_cuts_off(self):
        inner = Change(TENS, self.shifted(1), 505)
        # From day 300 on the dates are those of the year behind, so the inner gap is never reached.
        outer = Change(inner, self.shifted(1), 300)
        self.assert_in_gap(outer, TENS.date_of(350), 300)
        self.assertEqual(outer.day_of(inner.date_of(505)), 505)
        self.assertEqual(outer.day_of(TENS.date_of(505)), 405)

    def test_a_refused_change_of_changes(self):
        inner = Change(TENS, self.shifted(1), 505)
        self.assert_no_change(inner, TENS, 700)
        self.assert_no_change(self.shifted(2), inner, 300)


class Moved(ChangeCase):
    def test_there_and_back(self):
        change = Change(OLD, NEW, DAY)
        for one, other in ((OLD, NEW), (NEW, LUNAR), (LUNAR, change), (change, OLD), (change, change)):
            for day in (-FAR, -1000, -1, 0, 1, 60, DAY - 1, DAY, DAY + 1, FAR):
                date = one.date_of(day)
                told = moved(date, one, other)
                self.assertEqual(told, other.date_of(day))
                self.assertEqual(moved(told, other, one), date)

    def test_written_out(self):
        self.assertEqual(moved((1582, 10, 15), NEW, OLD), (1582, 10, 5))
        self.assertEqual(moved((1582, 10, 5), OLD, NEW), (1582, 10, 15))
        self.assertEqual(moved((0, 1, 1), LUNAR, OLD), (0, 1, 13))

    def test_refused_as_the_day_is(self):
        change = Change(OLD, NEW, DAY)
        for one, date in ((NEW, (1700, 2, 29)), (change, (1582, 10, 77)), (LUNAR, (0, 13, 1))):
            with self.assertRaises(NoDate) as taken:
                moved(date, one, OLD)
            self.assertEqual(taken.exception.date, date)
        with self.assertRaises(InGap) as taken:
            moved((1582, 10, 9), change, OLD)
        self.assertEqual((taken.exception.date, taken.exception.day), ((1582, 10, 9), DAY))
        self.assertEqual(moved((1582, 10, 9), OLD, change), (1582, 10, 19))
