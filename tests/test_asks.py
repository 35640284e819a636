"""Points 2 and 13: feastwheel.asks."""

import inspect
import unittest

from feastwheel import asks
from feastwheel.asks import how_many, last_day, next_day, nth_day
from feastwheel.errors import NoNumber
from helper import FAR, LONGEST, days_of, holds, some_round

ALL_SMALL = [(size, bits) for size in range(1, 6) for bits in range(1 << size)]
ONE_OF_MANY = (LONGEST, 1 << 149990)
TWO_OF_MANY = (LONGEST, 1 << 149990 | 1 << 3)
ALL_OF_MANY = (LONGEST, (1 << LONGEST) - 1)
NONE = [(1, 0), (7, 0), (LONGEST, 0)]


class Interface(unittest.TestCase):
    def test_names_and_arguments(self):
        told = {
            "next_day": ["turn", "day"],
            "last_day": ["turn", "day"],
            "how_many": ["turn", "first", "end"],
            "nth_day": ["turn", "day", "number"],
        }
        for name, arguments in told.items():
            with self.subTest(name):
                self.assertEqual(list(inspect.signature(getattr(asks, name)).parameters), arguments)


def walked_next(turn, day):
    for later in range(day, day + turn[0]):
        if holds(turn, later):
            return later
    return None


def walked_last(turn, day):
    for sooner in range(day, day - turn[0], -1):
        if holds(turn, sooner):
            return sooner
    return None


class NextAndLast(unittest.TestCase):
    def test_on_a_day_of_the_round_and_beside_one(self):
        week = (7, 1)
        self.assertEqual([next_day(week, day) for day in (-8, -7, -6, -1, 0, 1, 6, 7, 8)],
                         [-7, -7, 0, 0, 0, 7, 7, 7, 14])
        self.assertEqual([last_day(week, day) for day in (-8, -7, -6, -1, 0, 1, 6, 7, 8)],
                         [-14, -7, -7, -7, 0, 0, 0, 7, 7])

    def test_every_small_round_against_walking(self):
        for turn in ALL_SMALL:
            for day in range(-11, 12):
                with self.subTest(turn=turn, day=day):
                    self.assertEqual(next_day(turn, day), walked_next(turn, day))
                    self.assertEqual(last_day(turn, day), walked_last(turn, day))

    def test_middling_rounds_against_walking(self):
        for size in (31, 64, 255, 256, 257, 300):
            turn = some_round(size, 3)
            for day in list(range(-size, size + 1, 5)) + [-FAR, FAR]:
                with self.subTest(size=size, day=day):
                    self.assertEqual(next_day(turn, day), walked_next(turn, day))
                    self.assertEqual(last_day(turn, day), walked_last(turn, day))

    def test_far_off(self):
        week = (7, 1 << 3)
        self.assertEqual(next_day(week, 7 * FAR + 4), 7 * FAR + 10)
        self.assertEqual(next_day(week, 7 * FAR + 3), 7 * FAR + 3)
        self.assertEqual(next_day(week, -7 * FAR + 4), -7 * FAR + 10)
        self.assertEqual(last_day(week, 7 * FAR + 2), 7 * FAR - 4)
        self.assertEqual(last_day(week, 7 * FAR + 3), 7 * FAR + 3)
        self.assertEqual(last_day(week, -7 * FAR + 2), -7 * FAR - 4)

    def test_without_days(self):
        for turn in NONE:
            for day in (-FAR, -1, 0, 5, FAR):
                with self.subTest(size=turn[0], day=day):
                    self.assertIsNone(next_day(turn, day))
                    self.assertIsNone(last_day(turn, day))

    def test_with_all_days(self):
        for turn in ((1, 1), (7, 127), ALL_OF_MANY):
            for day in (-FAR, -1, 0, 5, FAR):
                with self.subTest(size=turn[0], day=day):
                    self.assertEqual(next_day(turn, day), day)
                    self.assertEqual(last_day(turn, day), day)

    def test_the_greatest_size(self):
        self.assertEqual(next_day(ONE_OF_MANY, 0), 149990)
        self.assertEqual(next_day(ONE_OF_MANY, 149990), 149990)
        self.assertEqual(next_day(ONE_OF_MANY, 149991), 299990)
        self.assertEqual(last_day(ONE_OF_MANY, 149990), 149990)
        self.assertEqual(last_day(ONE_OF_MANY, 149989), -10)
        self.assertEqual(last_day(ONE_OF_MANY, -11), -150010)


class HowMany(unittest.TestCase):
    def test_every_small_round_against_walking(self):
        for turn in ALL_SMALL:
            for first in range(-9, 10, 2):
                for end in range(-12, 13):
                    with self.subTest(turn=turn, first=first, end=end):
                        if first <= end:
                            asked = len(days_of(turn, first, end))
                        else:
                            asked = -len(days_of(turn, end, first))
                        self.assertEqual(how_many(turn, first, end), asked)

    def test_the_first_day_is_in_it_and_the_end_is_not(self):
        week = (7, 1)
        self.assertEqual(how_many(week, 0, 7), 1)
        self.assertEqual(how_many(week, 0, 8), 2)
        self.assertEqual(how_many(week, 1, 7), 0)
        self.assertEqual(how_many(week, 7, 0), -1)
        self.assertEqual(how_many(week, 8, 0), -2)
        self.assertEqual(how_many(week, 7, 1), 0)

    def test_from_a_day_to_itself(self):
        for day in (-FAR, -7, 0, 7, FAR):
            self.assertEqual(how_many((7, 127), day, day), 0)

    def test_whole_rounds(self):
        for first in (-FAR, -5, 0, 4, FAR):
            for times in (1, 2, 1000, FAR):
                with self.subTest(first=first, times=times):
                    self.assertEqual(how_many((7, 0b1010001), first, first + 7 * times), 3 * times)
                    self.assertEqual(how_many((7, 0b1010001), first, first - 7 * times), -3 * times)

    def test_far_days(self):
        week = (7, 1)
        self.assertEqual(how_many(week, -7 * FAR, 7 * FAR), 2 * FAR)
        self.assertEqual(how_many(week, -7 * FAR, 7 * FAR + 1), 2 * FAR + 1)
        self.assertEqual(how_many(week, 7 * FAR + 1, -7 * FAR), -2 * FAR - 1)
        self.assertEqual(how_many(week, 7 * FAR - 1, 7 * FAR + 20), 3)

    def test_middling_rounds_against_walking(self):
        for size in (31, 32, 33, 63, 64, 65, 127, 129, 255, 256, 257, 1000):
            turn = some_round(size, 5)
            for first, end in ((0, size), (3, size - 2), (-size - 7, 2 * size + 5), (5, size // 2)):
                with self.subTest(size=size, first=first, end=end):
                    self.assertEqual(how_many(turn, first, end), len(days_of(turn, first, end)))

    def test_the_least_and_the_greatest_size(self):
        self.assertEqual(how_many((1, 1), -5, 9), 14)
        self.assertEqual(how_many((1, 0), -5, 9), 0)
        self.assertEqual(how_many(ALL_OF_MANY, -5, LONGEST), LONGEST + 5)
        self.assertEqual(how_many(ALL_OF_MANY, 17, FAR), FAR - 17)
        self.assertEqual(how_many(TWO_OF_MANY, 4, 149991), 1)
        self.assertEqual(how_many(TWO_OF_MANY, 3, 149991), 2)
        self.assertEqual(how_many(TWO_OF_MANY, -11, -9), 1)
        turn = some_round(LONGEST, 1)
        self.assertEqual(how_many(turn, 0, LONGEST), turn[1].bit_count())
        self.assertEqual(how_many((LONGEST, 0), 0, FAR), 0)


class NthDay(unittest.TestCase):
    def check_by_walking(self, turn, day, most):
        forth = days_of(turn, day, day + (most + 1) * turn[0])
        back = days_of(turn, day - (most + 1) * turn[0], day + 1)[::-1]
        for number in range(1, most + 1):
            with self.subTest(turn=turn, day=day, number=number):
                self.assertEqual(nth_day(turn, day, number), forth[number - 1])
                self.assertEqual(nth_day(turn, day, -number), back[number - 1])

    def test_every_small_round_against_walking(self):
        for turn in ALL_SMALL:
            if turn[1]:
                for day in range(-7, 8):
                    self.check_by_walking(turn, day, 6)

    def test_middling_rounds_against_walking(self):
        for size in (63, 64, 257):
            for day in (-size - 1, -1, 0, 40, 7 * FAR):
                self.check_by_walking(some_round(size, 2), day, 9)

    def test_each_number_within_two_rounds(self):
        turn = some_round(61, 4)
        row = days_of(turn, 0, 244)
        for number in range(1, len(row) + 1):
            self.assertEqual(nth_day(turn, 0, number), row[number - 1])
            self.assertEqual(nth_day(turn, 243, -number), row[-number])

    def test_one_and_two_and_back(self):
        week = (7, 1)
        self.assertEqual([nth_day(week, 7, n) for n in (1, 2, -1, -2)], [7, 14, 7, 0])
        self.assertEqual([nth_day(week, 8, n) for n in (1, 2, -1, -2)], [14, 21, 7, 0])
        self.assertEqual([nth_day(week, -8, n) for n in (1, 2, -1, -2)], [-7, 0, -14, -21])

    def test_long_numbers(self):
        turn = (7, 0b1010001)
        self.assertEqual(nth_day(turn, 0, 3 * FAR + 1), 7 * FAR)
        self.assertEqual(nth_day(turn, 0, 3 * FAR + 2), 7 * FAR + 4)
        self.assertEqual(nth_day(turn, 0, -3 * FAR - 1), -7 * FAR)
        self.assertEqual(nth_day(turn, 0, -3 * FAR - 2), -7 * FAR - 1)
        self.assertEqual(nth_day(turn, 7 * FAR + 5, 1), 7 * FAR + 6)
        self.assertEqual(nth_day(turn, -7 * FAR + 5, -1), -7 * FAR + 4)

    def test_it_is_next_and_last_with_one(self):
        turn = some_round(50, 6)
        for day in range(-60, 61):
            self.assertEqual(nth_day(turn, day, 1), next_day(turn, day))
            self.assertEqual(nth_day(turn, day, -1), last_day(turn, day))

    def test_the_least_and_the_greatest_size(self):
        self.assertEqual(nth_day((1, 1), 5, FAR), FAR + 4)
        self.assertEqual(nth_day((1, 1), 5, -FAR), 6 - FAR)
        self.assertEqual(nth_day(TWO_OF_MANY, 4, 1), 149990)
        self.assertEqual(nth_day(TWO_OF_MANY, 4, 2), 150003)
        self.assertEqual(nth_day(TWO_OF_MANY, 4, -2), -10)
        self.assertEqual(nth_day(ALL_OF_MANY, 4, 100001), 100004)
        turn = some_round(LONGEST, 8)
        row = days_of(turn, 0, LONGEST)
        for number in (1, 2, 3, 1000, 50000, len(row) - 1, len(row)):
            self.assertEqual(nth_day(turn, 0, number), row[number - 1])

    def test_the_number_nought_is_refused(self):
        for turn in NONE + [(7, 1), (1, 1), ONE_OF_MANY]:
            for day in (-FAR, 0, 3):
                with self.subTest(size=turn[0], day=day):
                    with self.assertRaises(NoNumber):
                        nth_day(turn, day, 0)

    def test_without_days(self):
        for turn in NONE:
            for number in (1, 2, -1, -2, FAR, -FAR):
                with self.subTest(size=turn[0], number=number):
                    self.assertIsNone(nth_day(turn, 3, number))
