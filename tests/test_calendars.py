"""Points 2, 24 to 28 and 46: feastwheel.calendars."""

import inspect
import math
import unittest

from feastwheel import calendars
from feastwheel.calendars import Calendar, Moon, Sun
from feastwheel.errors import NoDate, NoMeasure
from feastwheel.measures import Measure
from helper import FAR, FOURTH, GREGORIAN, LONG_TERMS, TWELVE, signs_in

# (start, lengths, leap, terms)
SUNS = [
    (0, TWELVE, 2, [FOURTH]),
    (2, TWELVE, 2, GREGORIAN),
    (-40, [30] * 12 + [5], 13, [(1, 1, 0, 4)]),
    (7, [10, 0, 5, 0], 2, [(1, 1, 1, 3), (1, 2, 0, 5)]),
    (100, [0, 0, 3], 1, None),
    (5, [2, 1, 0], 1, [(-1, 1, 0, 2), (-1, 2, 2, 3)]),
    (0, [1], 1, None),
    (-3, [0, 4, 0], 3, []),
]
# (start, (base, terms) of the days, (base, terms) of the months)
MOONS = [
    (12, (29, [(1, 1, 0, 2)]), (12, [(1, 7, 0, 19)])),
    (0, (30, None), (12, None)),
    (-5, (1, [(1, 1, 0, 3)]), (1, [(1, 1, 0, 2)])),
    (1, (3, [(-1, 1, 0, 2), (-1, 1, 1, 5)]), (4, [(-1, 2, 1, 3), (1, 1, 0, 4)])),
]


def walked_lengths(given):
    """For years from -9 to 9 the lengths of the months, by the words of points 25 and 26."""
    if len(given) == 4:
        start, lengths, leap, terms = given
        return {year: [length + (signs_in(terms, year) if month == leap else 0)
                       for month, length in enumerate(lengths, 1)] for year in range(-9, 10)}
    start, days, many = given
    told = {}
    number = 0
    for year in range(10):
        told[year] = []
        for month in range(many[0] + signs_in(many[1], year)):
            told[year].append(days[0] + signs_in(days[1], number))
            number += 1
    number = -1
    for year in range(-1, -10, -1):
        told[year] = []
        for month in range(many[0] + signs_in(many[1], year)):
            told[year].insert(0, days[0] + signs_in(days[1], number))
            number -= 1
    return told


def made(given):
    if len(given) == 4:
        return Sun(*given)
    return Moon(given[0], Measure(*given[1]), Measure(*given[2]))


def walked_days(given):
    """Pairs (day, date) from year -9 to year 9, by walking over the lengths."""
    lengths = walked_lengths(given)
    day = given[0] - sum(sum(lengths[year]) for year in range(-9, 0))
    for year in range(-9, 10):
        for month, length in enumerate(lengths[year], 1):
            for number in range(1, length + 1):
                yield day, (year, month, number)
                day += 1


class Interface(unittest.TestCase):
    def test_names_and_arguments(self):
        sun = inspect.signature(Sun).parameters
        self.assertEqual(list(sun), ["start", "lengths", "leap", "terms"])
        self.assertEqual((sun["leap"].default, sun["terms"].default), (1, None))
        self.assertEqual(list(inspect.signature(Moon).parameters), ["start", "days", "many"])
        methods = {"date_of": ["day"], "day_of": ["date"], "cycle": [], "year_start": ["year"], "lengths": ["year"],
                   "year_at": ["day"], "shown": []}
        for given in (SUNS[0], MOONS[0]):
            for name, arguments in methods.items():
                with self.subTest(name):
                    self.assertEqual(list(inspect.signature(getattr(made(given), name)).parameters), arguments)

    def test_the_classes_stand_straight_under_calendar(self):
        self.assertEqual(Sun.__bases__, (Calendar,))
        self.assertEqual(Moon.__bases__, (Calendar,))
        self.assertIs(calendars.Calendar, Calendar)

    def test_what_is_left_out(self):
        self.assertEqual(Sun(0, [3, 4]).date_of(8), (1, 1, 2))
        self.assertEqual(Sun(0, [3, 4], terms=[FOURTH]).lengths(0), [4, 4])


class ByWalking(unittest.TestCase):
    """Points 24 to 27, near the years around 0."""

    def test_dates_of_days_and_days_of_dates(self):
        for given in SUNS + MOONS:
            calendar = made(given)
            dates = []
            for day, date in walked_days(given):
                dates.append(date)
                if calendar.date_of(day) != date or calendar.day_of(date) != day or calendar.year_at(day) != date[0]:
                    self.fail(f"{given}: {day} and {date}")
            self.assertEqual(dates, sorted(dates))

    def test_years_and_lengths(self):
        for given in SUNS + MOONS:
            calendar = made(given)
            lengths = walked_lengths(given)
            first = given[0] - sum(sum(lengths[year]) for year in range(-9, 0))
            for year in range(-9, 10):
                with self.subTest(given=given, year=year):
                    self.assertEqual(calendar.lengths(year), lengths[year])
                    self.assertIs(type(calendar.lengths(year)), list)
                    self.assertEqual(calendar.year_start(year), first)
                    self.assertEqual(calendar.year_at(first), year)
                    self.assertEqual(calendar.year_at(first - 1), year - 1)
                first += sum(lengths[year])

    def test_kinds(self):
        for given in SUNS + MOONS:
            date = made(given).date_of(1000)
            self.assertIs(type(date), tuple)
            self.assertEqual([type(part) for part in date], [int, int, int])

    def test_dates_that_no_day_has(self):
        for given in SUNS + MOONS:
            calendar = made(given)
            for year, lengths in walked_lengths(given).items():
                wrong = [(year, month, day) for month in (-FAR, -1, 0, len(lengths) + 1, FAR) for day in (1, 0, -1)]
                for month, length in enumerate(lengths, 1):
                    wrong += [(year, month, day) for day in (0, -1, -FAR, length + 1, length + 40, FAR)]
                for date in wrong:
                    with self.subTest(given=given, date=date):
                        with self.assertRaises(NoDate) as taken:
                            calendar.day_of(date)
                        self.assertEqual(taken.exception.date, date)


class FarOff(unittest.TestCase):
    def calendars(self):
        for given in SUNS + MOONS:
            yield made(given)
        yield Sun(FAR, TWELVE, 2, LONG_TERMS)
        yield Sun(-FAR, [1000] * 20, 20, LONG_TERMS)
        yield Moon(FAR, Measure(29, LONG_TERMS), Measure(12, LONG_TERMS[::-1]))
        yield Moon(-FAR, Measure(1000, LONG_TERMS), Measure(20, LONG_TERMS))

    def test_years_and_days_against_one_another(self):
        for calendar in self.calendars():
            for year in (-FAR, -FAR + 1, -10 ** 20 - 7, -1, 0, 1, 10 ** 18, FAR, FAR + 399):
                with self.subTest(calendar=calendar.shown(), year=year):
                    first, end = calendar.year_start(year), calendar.year_start(year + 1)
                    lengths = calendar.lengths(year)
                    self.assertEqual(end - first, sum(lengths))
                    self.assertEqual((calendar.year_at(first), calendar.year_at(end - 1)), (year, year))
                    self.assertEqual((calendar.year_at(first - 1), calendar.year_at(end)), (year - 1, year + 1))
                    for month, length in enumerate(lengths, 1):
                        for number, day in ((1, first), (length, first + length - 1)):
                            if length > 0:
                                self.assertEqual(calendar.date_of(day), (year, month, number))
                                self.assertEqual(calendar.day_of((year, month, number)), day)
                        first += length
                        with self.assertRaises(NoDate) as taken:
                            calendar.day_of((year, month, length + 1))
                        self.assertEqual(taken.exception.date, (year, month, length + 1))

    def test_days_forth_and_back(self):
        for calendar in self.calendars():
            for first in (FAR, -FAR, 10 ** 30, -10 ** 30):
                dates = [calendar.date_of(day) for day in range(first, first + 60)]
                self.assertEqual(dates, sorted(dates))
                self.assertEqual(len(set(dates)), 60)
                self.assertEqual([calendar.day_of(date) for date in dates], list(range(first, first + 60)))

    def test_written_out(self):
        new = Sun(2, TWELVE, 2, GREGORIAN)
        self.assertEqual(new.date_of(2 + 146097 * FAR), (400 * FAR, 1, 1))
        self.assertEqual(new.date_of(1 - 146097 * FAR), (-400 * FAR - 1, 12, 31))
        self.assertEqual(new.day_of((400 * FAR, 2, 29)), 61 + 146097 * FAR)


class Suns(unittest.TestCase):
    def assert_refused(self, *given):
        with self.subTest(given=given):
            with self.assertRaises(NoMeasure):
                Sun(*given)

    def test_days_are_added_to_one_month_alone(self):
        old = Sun(0, TWELVE, 2, [FOURTH])
        for year in range(-8, 9):
            asked = list(TWELVE)
            asked[1] = 29 if year % 4 == 0 else 28
            self.assertEqual(old.lengths(year), asked)
        self.assertEqual(old.date_of(59), (0, 2, 29))
        self.assertEqual(old.date_of(60), (0, 3, 1))
        self.assertEqual(old.date_of(-1), (-1, 12, 31))
        self.assertEqual(old.date_of(366), (1, 1, 1))

    def test_a_month_without_days_keeps_its_number(self):
        calendar = Sun(0, [10, 0, 5, 0], 2, [FOURTH])
        self.assertEqual(calendar.lengths(0), [10, 1, 5, 0])
        self.assertEqual(calendar.lengths(1), [10, 0, 5, 0])
        self.assertEqual([calendar.date_of(day) for day in (9, 10, 11)], [(0, 1, 10), (0, 2, 1), (0, 3, 1)])
        self.assertEqual([calendar.date_of(day) for day in (25, 26)], [(1, 1, 10), (1, 3, 1)])
        self.assertEqual(calendar.day_of((0, 2, 1)), 10)
        for date in ((1, 2, 1), (0, 4, 1), (1, 4, 1), (1, 4, 0)):
            with self.assertRaises(NoDate):
                calendar.day_of(date)

    def test_how_many_months(self):
        self.assert_refused(0, [])
        self.assert_refused(0, [5] * 21)
        self.assert_refused(0, [5] * 1000)
        self.assertEqual(Sun(0, [5]).lengths(3), [5])
        self.assertEqual(Sun(0, [5] * 20, 20).lengths(3), [5] * 20)

    def test_lengths_of_months(self):
        for length in (-1, 1001, -FAR, FAR):
            self.assert_refused(0, [length])
            self.assert_refused(0, [30, length, 30])
            self.assert_refused(0, [30, 30, length])
        self.assertEqual(Sun(0, [0, 1000, 0]).lengths(1), [0, 1000, 0])
        self.assertEqual(Sun(0, [1000] * 20, 1, [(1, 1, 0, 1)] * 6).lengths(1), [1006] + [1000] * 19)

    def test_the_number_of_the_month(self):
        for leap in (0, -1, 4, -FAR, FAR):
            self.assert_refused(0, [5, 5, 5], leap)
            self.assert_refused(0, [5, 5, 5], leap, [FOURTH])
        for leap in (1, 2, 3):
            self.assertEqual(Sun(0, [5, 5, 5], leap, [FOURTH]).lengths(0)[leap - 1], 6)

    def test_terms_that_a_measure_refuses(self):
        for term in ((0, 1, 3, 4), (2, 1, 3, 4), (1, 5, 3, 4), (1, -1, 3, 4), (1, 1, 4, 4), (1, 1, -1, 4), (1, 0, 0, 0),
                     (1, 1, 0, 1001), (1, FAR, 0, 4)):
            self.assert_refused(0, TWELVE, 2, [term])
            self.assert_refused(0, TWELVE, 2, [FOURTH, term])
        self.assert_refused(0, TWELVE, 2, [FOURTH] * 7)
        self.assertEqual(Sun(0, TWELVE, 2, [FOURTH] * 6).lengths(0)[1], 34)

    def test_a_month_that_could_have_fewer_days_than_none(self):
        minus = [(-1, 1, 0, 2), (-1, 1, 1, 2)]
        self.assert_refused(0, [30, 1, 30], 2, minus)
        self.assert_refused(0, [30, 0, 30], 2, [(-1, 0, 0, 1)])
        self.assert_refused(0, [30, 0, 30], 2, [(1, 1, 0, 1), (-1, 0, 0, 1)])
        self.assertEqual(Sun(0, [30, 2, 30], 2, minus).lengths(0), [30, 1, 30])
        self.assertEqual(Sun(0, [30, 1, 30], 2, [(-1, 1, 0, 1)]).lengths(0), [30, 0, 30])

    def test_a_year_that_could_be_without_days(self):
        self.assert_refused(0, [0])
        self.assert_refused(0, [0] * 20)
        self.assert_refused(0, [0, 0], 1, [(1, 1, 0, 1)])
        self.assert_refused(0, [1], 1, [(-1, 0, 0, 1)])
        self.assert_refused(0, [2, 0], 1, [(-1, 1, 0, 2), (-1, 1, 1, 2)])
        self.assertEqual(Sun(0, [2, 0], 1, [(-1, 1, 0, 1)]).lengths(0), [1, 0])
        self.assertEqual(Sun(0, [1, 1], 1, [(-1, 1, 0, 1)]).lengths(0), [0, 1])

    def test_what_was_handed_in_stays_and_may_change_behind_the_call(self):
        lengths = [10, 20]
        terms = [FOURTH]
        calendar = Sun(0, lengths, 2, terms)
        self.assertEqual((lengths, terms), ([10, 20], [FOURTH]))
        lengths[0] = 99
        lengths.append(7)
        terms[0] = (1, 1, 0, 1)
        terms.append(FOURTH)
        self.assertEqual([calendar.lengths(year) for year in (0, 1)], [[10, 21], [10, 20]])
        self.assertEqual(calendar.shown(), "sun 0 10,20 leap 2 +1,3,4")
        self.assertEqual(calendar.cycle(), (4, 121))
        self.assertEqual(calendar.date_of(31), (1, 1, 1))

    def test_the_list_of_lengths_is_the_askers_own(self):
        for calendar in (Sun(0, TWELVE, 2, [FOURTH]), Sun(0, TWELVE), made(MOONS[0])):
            told = calendar.lengths(1)
            kept = list(told)
            told[0] = 999
            told.append(5)
            self.assertEqual(calendar.lengths(1), kept)
            self.assertEqual(calendar.lengths(1), kept)
            self.assertEqual(calendar.day_of(calendar.date_of(400)), 400)


class Moons(unittest.TestCase):
    def assert_refused(self, days, many):
        with self.subTest(days=days, many=many):
            with self.assertRaises(NoMeasure):
                Moon(0, Measure(*days), Measure(*many))

    def test_months_are_numbered_through_all_years(self):
        calendar = Moon(12, Measure(29, [(1, 1, 0, 2)]), Measure(12, [(1, 7, 0, 19)]))
        self.assertEqual(calendar.year_start(0), 12)
        self.assertEqual(calendar.lengths(0), [29, 30] * 6)
        self.assertEqual(calendar.lengths(2), [29, 30] * 6 + [29])
        self.assertEqual(calendar.lengths(3), [30, 29] * 6)
        self.assertEqual([len(calendar.lengths(year)) for year in range(-2, 6)], [12, 13, 12, 12, 13, 12, 12, 13])
        self.assertEqual(calendar.date_of(12), (0, 1, 1))
        self.assertEqual(calendar.date_of(11), (-1, 13, 30))
        self.assertEqual(calendar.day_of((0, 2, 30)), 70)
        for date in ((0, 1, 30), (0, 13, 1), (2, 14, 1), (3, 2, 30)):
            with self.assertRaises(NoDate):
                calendar.day_of(date)

    def test_days_that_could_fall_below_one(self):
        many = (12,)
        self.assert_refused((0, [(1, 1, 0, 2)]), many)
        self.assert_refused((0, [(1, 1, 0, 1)]), many)
        self.assert_refused((1, [(-1, 1, 0, 2)]), many)
        self.assert_refused((1, [(-1, 0, 0, 2)]), many)
        self.assert_refused((2, [(-1, 1, 0, 2), (-1, 1, 1, 2)]), many)
        self.assertEqual(Moon(0, Measure(1), Measure(12)).lengths(0), [1] * 12)
        self.assertEqual(Moon(0, Measure(2, [(-1, 1, 0, 1)]), Measure(2)).lengths(0), [1, 1])

    def test_months_that_could_fall_below_one(self):
        days = (29,)
        self.assert_refused(days, (0, [(1, 1, 0, 2)]))
        self.assert_refused(days, (1, [(-1, 1, 0, 2)]))
        self.assert_refused(days, (2, [(-1, 1, 0, 2), (-1, 1, 1, 2)]))
        self.assertEqual(Moon(0, Measure(29), Measure(1)).lengths(0), [29])
        self.assertEqual(Moon(0, Measure(29), Measure(2, [(-1, 1, 0, 1)])).lengths(5), [29])

    def test_bases_too_great(self):
        for base in (1001, 20000):
            self.assert_refused((base,), (12,))
        for base in (21, 1000, 20000):
            self.assert_refused((29,), (base,))
        self.assertEqual(Moon(0, Measure(1000), Measure(20)).lengths(-1), [1000] * 20)
        full = Moon(0, Measure(1000, [(1, 1, 0, 1)] * 6), Measure(20, [(1, 1, 0, 1)] * 6))
        self.assertEqual(full.lengths(-1), [1006] * 26)

    def test_the_terms_may_change_behind_the_call(self):
        days, many = [(1, 1, 0, 2)], [(1, 7, 0, 19)]
        calendar = Moon(12, Measure(29, days), Measure(12, many))
        days.append((1, 1, 0, 1))
        many[0] = (1, 1, 0, 1)
        self.assertEqual(calendar.lengths(0), [29, 30] * 6)
        self.assertEqual(calendar.shown(), "moon 12 29 +1,0,2 / 12 +7,0,19")


class Cycles(unittest.TestCase):
    def test_suns(self):
        self.assertEqual(Sun(5, TWELVE).cycle(), (1, 365))
        self.assertEqual(Sun(5, TWELVE, 3, []).cycle(), (1, 365))
        self.assertEqual(Sun(0, TWELVE, 2, [FOURTH]).cycle(), (4, 1461))
        self.assertEqual(Sun(2, TWELVE, 2, GREGORIAN).cycle(), (400, 146097))
        self.assertEqual(Sun(2, [10], 1, [(1, 0, 0, 4), (1, 6, 0, 6)]).cycle(), (12, 132))
        self.assertEqual(Sun(0, TWELVE, 2, LONG_TERMS).cycle()[0], math.lcm(*[term[3] for term in LONG_TERMS]))

    def test_moons(self):
        self.assertEqual(Moon(0, Measure(30), Measure(12)).cycle(), (1, 360))
        # 235 months in 19 years; 2 doesn't divide 235, so it takes both 19 years twice.
        self.assertEqual(made(MOONS[0]).cycle(), (38, 470 * 29 + 235))
        # 24 months in 2 years hold whole periods of 8 months: once is enough.
        calendar = Moon(0, Measure(29, [(1, 3, 0, 8)]), Measure(12, [(1, 0, 0, 2)]))
        self.assertEqual(calendar.cycle(), (2, 24 * 29 + 9))
        # 12 months and a period of 8: their divisor is 4, so two years.
        self.assertEqual(Moon(0, Measure(29, [(1, 3, 0, 8)]), Measure(12)).cycle(), (2, 24 * 29 + 9))

    def test_moons_by_the_words_of_the_point(self):
        for many in ((12, [(1, 7, 0, 19)]), (6, [(1, 1, 0, 4), (-1, 1, 0, 6)]), (5, None)):
            for days in ((29, [(1, 1, 0, 2)]), (3, [(1, 2, 1, 9), (1, 1, 0, 12)]), (4, None), (9, [(-1, 5, 0, 35)])):
                with self.subTest(many=many, days=days):
                    calendar = Moon(3, Measure(*days), Measure(*many))
                    P = math.lcm(*[term[3] for term in many[1] or []])
                    M = sum(many[0] + signs_in(many[1], year) for year in range(P))
                    n = math.lcm(*[term[3] for term in days[1] or []])
                    f = n // math.gcd(n, M)
                    asked = sum(days[0] + signs_in(days[1], month) for month in range(M * f))
                    self.assertEqual(calendar.cycle(), (P * f, asked))

    def test_all_comes_again(self):
        for given in SUNS + MOONS:
            calendar = made(given)
            years, days = calendar.cycle()
            for day in list(range(-50, 450, 7)) + [FAR, -FAR]:
                for times in (1, -1, 3, FAR):
                    year, month, number = calendar.date_of(day)
                    asked = (year + times * years, month, number)
                    self.assertEqual(calendar.date_of(day + times * days), asked)
            for year in (-FAR, -3, 0, 5, FAR):
                self.assertEqual(calendar.year_start(year + years) - calendar.year_start(year), days)
                self.assertEqual(calendar.lengths(year + years), calendar.lengths(year))


class Shown(unittest.TestCase):
    def test_the_cases_of_the_document(self):
        self.assertEqual(Sun(0, [31, 28], 2, [(1, 1, 3, 4)]).shown(), "sun 0 31,28 leap 2 +1,3,4")
        calendar = Moon(12, Measure(29, [(1, 1, 0, 2)]), Measure(12, [(1, 7, 0, 19)]))
        self.assertEqual(calendar.shown(), "moon 12 29 +1,0,2 / 12 +7,0,19")

    def test_suns_without_terms(self):
        self.assertEqual(Sun(-7, [30]).shown(), "sun -7 30")
        self.assertEqual(Sun(0, [0, 30, 0], 2).shown(), "sun 0 0,30,0")
        self.assertEqual(Sun(0, [31, 28], 2, []).shown(), "sun 0 31,28")

    def test_several_terms_in_their_order(self):
        self.assertEqual(Sun(2, [31, 28], 2, GREGORIAN).shown(), "sun 2 31,28 leap 2 +1,3,4 -1,99,100 +1,399,400")
        self.assertEqual(Sun(2, [31, 28], 1, GREGORIAN[::-1]).shown(),
                         "sun 2 31,28 leap 1 +1,399,400 -1,99,100 +1,3,4")

    def test_moons_with_and_without_terms(self):
        self.assertEqual(Moon(-1, Measure(30), Measure(12)).shown(), "moon -1 30 / 12")
        self.assertEqual(Moon(0, Measure(30, []), Measure(12, [(1, 7, 0, 19)])).shown(), "moon 0 30 / 12 +7,0,19")
        self.assertEqual(Moon(0, Measure(30, [(-1, 1, 0, 2), (1, 0, 0, 1)]), Measure(12)).shown(),
                         "moon 0 30 -1,0,2 +0,0,1 / 12")

    def test_long_numbers(self):
        self.assertEqual(Sun(-FAR, [30]).shown(), f"sun -{FAR} 30")
        self.assertEqual(Moon(FAR, Measure(30), Measure(12)).shown(), f"moon {FAR} 30 / 12")
