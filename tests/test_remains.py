"""Points 2 and 4 to 7: feastwheel.remains."""

import inspect
import itertools
import math
import unittest

from feastwheel import remains
from feastwheel.errors import NoNumber
from feastwheel.remains import ahead, back, common, divisor, equation, met

SMALL = range(-13, 14)
LONG = [10 ** 99 - 1, -(10 ** 99) + 1, 3 ** 209, -(6 ** 128), 2 ** 332, 97 * 7 ** 115, 10 ** 99 + 289]
BELOW_ONE = [0, -1, -7, -(10 ** 99)]


def greatest_divisor(one, other):
    """The divisor by trying every number."""
    if one == 0 and other == 0:
        return 0
    top = max(abs(one), abs(other))
    return max(n for n in range(1, top + 1) if one % n == 0 and other % n == 0)


class Interface(unittest.TestCase):
    def test_names_and_arguments(self):
        told = {
            "divisor": ["one", "other"],
            "equation": ["one", "other"],
            "common": ["one", "other"],
            "met": ["rest", "size", "other_rest", "other_size"],
            "ahead": ["rest", "size", "day"],
            "back": ["rest", "size", "day"],
        }
        for name, arguments in told.items():
            with self.subTest(name):
                self.assertEqual(list(inspect.signature(getattr(remains, name)).parameters), arguments)


class Divisors(unittest.TestCase):
    def test_small_numbers_with_either_sign(self):
        for one, other in itertools.product(SMALL, SMALL):
            with self.subTest(one=one, other=other):
                self.assertEqual(divisor(one, other), greatest_divisor(one, other))

    def test_written_out(self):
        self.assertEqual(divisor(12, 18), 6)
        self.assertEqual(divisor(-12, 18), 6)
        self.assertEqual(divisor(12, -18), 6)
        self.assertEqual(divisor(-12, -18), 6)

    def test_of_nought(self):
        self.assertEqual(divisor(0, 0), 0)
        self.assertEqual(divisor(0, 9), 9)
        self.assertEqual(divisor(9, 0), 9)
        self.assertEqual(divisor(0, -9), 9)
        self.assertEqual(divisor(-9, 0), 9)

    def test_long_numbers(self):
        for one, other in itertools.product(LONG + [0, 1, -6], LONG):
            with self.subTest(one=one, other=other):
                self.assertEqual(divisor(one, other), math.gcd(one, other))


class Equations(unittest.TestCase):
    def check(self, one, other):
        told = equation(one, other)
        self.assertIs(type(told), tuple)
        self.assertEqual([type(part) for part in told], [int, int, int])
        u, v, g = told
        self.assertEqual(g, math.gcd(one, other))
        self.assertEqual(u * one + v * other, g)

    def test_small_numbers_with_either_sign(self):
        for one, other in itertools.product(SMALL, SMALL):
            with self.subTest(one=one, other=other):
                self.check(one, other)

    def test_of_nought(self):
        self.assertEqual(equation(0, 0)[2], 0)
        self.assertEqual(equation(0, -9)[2], 9)
        self.assertEqual(equation(-9, 0)[2], 9)

    def test_long_numbers(self):
        for one, other in itertools.product(LONG + [0, 1, -6], LONG):
            with self.subTest(one=one, other=other):
                self.check(one, other)
                self.check(other, one)


class Common(unittest.TestCase):
    def test_small_numbers(self):
        for one, other in itertools.product(range(1, 31), range(1, 31)):
            with self.subTest(one=one, other=other):
                walked = next(n for n in itertools.count(1) if n % one == 0 and n % other == 0)
                self.assertEqual(common(one, other), walked)

    def test_long_numbers(self):
        for one, other in itertools.product(LONG, LONG):
            with self.subTest(one=one, other=other):
                self.assertEqual(common(abs(one), abs(other)), math.lcm(one, other))
        self.assertEqual(common(10 ** 99, 1), 10 ** 99)
        self.assertEqual(common(10 ** 99, 10 ** 99), 10 ** 99)

    def test_below_one_is_refused_at_each_place(self):
        for number in BELOW_ONE:
            for one, other in ((number, 5), (5, number), (number, number)):
                with self.subTest(one=one, other=other):
                    with self.assertRaises(NoNumber):
                        common(one, other)


class Met(unittest.TestCase):
    def walked(self, rest, size, other_rest, other_size):
        together = math.lcm(size, other_size)
        days = [day for day in range(together)
                if (day - rest) % size == 0 and (day - other_rest) % other_size == 0]
        self.assertLessEqual(len(days), 1)
        return (days[0], together) if days else None

    def test_all_small_ones(self):
        for size, other_size in itertools.product(range(1, 9), range(1, 9)):
            for rest, other_rest in itertools.product(range(-9, 12, 2), range(-10, 12)):
                asked = (rest, size, other_rest, other_size)
                with self.subTest(asked=asked):
                    self.assertEqual(met(*asked), self.walked(*asked))

    def test_written_out(self):
        self.assertEqual(met(2, 3, 3, 5), (8, 15))
        self.assertEqual(met(1, 4, 3, 6), (9, 12))
        self.assertIs(met(1, 4, 2, 6), None)
        self.assertEqual(met(0, 1, 0, 1), (0, 1))
        self.assertIs(type(met(2, 3, 3, 5)), tuple)

    def test_remainders_below_nought_and_beyond_the_size(self):
        self.assertEqual(met(-1, 3, -2, 5), (8, 15))
        self.assertEqual(met(302, 3, -4997, 5), (8, 15))
        self.assertIs(met(-3, 4, 602, 6), None)

    def test_long_numbers(self):
        day = 123456789 ** 11
        for size, other_size in ((10 ** 99, 6 ** 127), (2 ** 300, 2 ** 200), (3 ** 200, 10 ** 99 - 1)):
            for sign in (1, -1):
                together = math.lcm(size, other_size)
                with self.subTest(size=size, other_size=other_size, sign=sign):
                    told = met(sign * day % size, size, sign * day - other_size, other_size)
                    self.assertEqual(told, (sign * day % together, together))
        self.assertIs(met(5, 10 ** 99, 8, 6 ** 127), None)

    def test_size_below_one_is_refused_at_each_place(self):
        for number in BELOW_ONE:
            for size, other_size in ((number, 5), (5, number), (number, number)):
                with self.subTest(size=size, other_size=other_size):
                    with self.assertRaises(NoNumber):
                        met(1, size, 1, other_size)
                    with self.assertRaises(NoNumber):
                        met(0, size, 3, other_size)


class AheadAndBack(unittest.TestCase):
    def test_walked(self):
        for size in range(1, 9):
            for rest, day in itertools.product(range(-11, 12), range(-20, 21)):
                with self.subTest(rest=rest, size=size, day=day):
                    first = next(d for d in itertools.count(day) if (d - rest) % size == 0)
                    last = next(d for d in itertools.count(day, -1) if (d - rest) % size == 0)
                    self.assertEqual(ahead(rest, size, day), first)
                    self.assertEqual(back(rest, size, day), last)

    def test_on_a_day_alike_and_beside_one(self):
        self.assertEqual([ahead(3, 7, day) for day in (9, 10, 11)], [10, 10, 17])
        self.assertEqual([back(3, 7, day) for day in (9, 10, 11)], [3, 10, 10])

    def test_below_nought(self):
        self.assertEqual([ahead(3, 7, day) for day in (-5, -4, -3)], [-4, -4, 3])
        self.assertEqual([back(3, 7, day) for day in (-5, -4, -3)], [-11, -4, -4])

    def test_far_off(self):
        far = 7 * 10 ** 98
        self.assertEqual([ahead(3, 7, far + day) for day in (2, 3, 4)], [far + 3, far + 3, far + 10])
        self.assertEqual([back(3, 7, day - far) for day in (2, 3, 4)], [-far - 4, 3 - far, 3 - far])
        self.assertEqual(ahead(far, 7, -5), 0)
        self.assertEqual(back(-far, 7, 5), 0)
        self.assertEqual(ahead(1, far, 2), far + 1)
        self.assertEqual(back(1, far, 0), 1 - far)

    def test_size_below_one_is_refused(self):
        for size in BELOW_ONE:
            with self.subTest(size=size):
                with self.assertRaises(NoNumber):
                    ahead(3, size, 5)
                with self.assertRaises(NoNumber):
                    back(3, size, 5)
