"""Points 2 and 14 to 19: feastwheel.wheels."""

import inspect
import itertools
import math
import unittest

from feastwheel import wheels
from feastwheel.errors import NoNumber
from feastwheel.wheels import every, kth, mirrored, near, till, until, upon
from helper import BELOW_ONE, FAR, LONGEST, RoundCase, days_of, holds, some_round
from words import says_kth, says_near, says_till, says_until, says_upon

SEVENTH = (7, 1)
TENTH = (10, 1 << 3)
# Sizes alike, unlike, one a multiple of the other, and 1 among them.
SIZES = ((1, 1), (1, 4), (4, 1), (3, 3), (5, 5), (4, 6), (6, 4), (3, 5), (5, 3), (2, 6), (6, 2), (3, 9), (12, 4))


def pairs_of_rounds():
    """Every pair of small rounds, and some of middling ones."""
    for size, other in ((1, 1), (1, 3), (2, 2), (2, 3), (3, 2), (4, 2), (2, 4), (3, 3), (4, 4)):
        for bits, other_bits in itertools.product(range(1 << size), range(1 << other)):
            yield (size, bits), (other, other_bits)
    for size, other in SIZES:
        for seed in range(6):
            yield some_round(size, seed), some_round(other, seed + 50)
    for size, other in ((30, 42), (64, 16), (20, 300)):
        yield (size, 1 << 5 | 1 << 6), some_round(other, 1)
        yield some_round(size, 1), (other, 1 << 11 | 1 << 2)


WHEELS = ((upon, says_upon), (until, says_until), (near, says_near), (till, says_till))


class Interface(unittest.TestCase):
    def test_names_and_arguments(self):
        told = {
            "upon": ["R", "S"],
            "until": ["R", "S"],
            "near": ["R", "S"],
            "till": ["R", "S"],
            "kth": ["number", "R", "S"],
            "every": ["number", "R", "day"],
            "mirrored": ["turn"],
        }
        for name, arguments in told.items():
            with self.subTest(name):
                self.assertEqual(list(inspect.signature(getattr(wheels, name)).parameters), arguments)


class DayByDay(RoundCase):
    """Each wheel of two rounds against the words of its point."""

    def check(self, told, R, S, says):
        size = math.lcm(R[0], S[0])
        self.assert_round(told)
        self.assertEqual(told[0], size)
        days = list(range(-3, size))
        self.assertEqual([holds(told, day) for day in days], [says(day, size) for day in days])

    def test_upon_until_near_till(self):
        for R, S in pairs_of_rounds():
            for call, words in WHEELS:
                with self.subTest(call=call.__name__, R=R, S=S):
                    self.check(call(R, S), R, S, lambda day, size: words(R, S, day, size))

    def test_kth(self):
        for R, S in pairs_of_rounds():
            for number in (1, 2, 3, -1, -2, -3):
                with self.subTest(number=number, R=R, S=S):
                    self.check(kth(number, R, S), R, S, lambda day, size: says_kth(number, R, S, day, size))

    def test_rounds_longer_than_the_pieces_their_bits_are_cut_into(self):
        for R, S in ((some_round(514, 1), some_round(257, 2)), ((769, 1 << 700), (769, 1 << 300 | 1 << 701))):
            for call, words in WHEELS[:2]:
                with self.subTest(call=call.__name__, sizes=(R[0], S[0])):
                    self.check(call(R, S), R, S, lambda day, size: words(R, S, day, size))


class UponUntilNear(RoundCase):
    def test_upon_in_the_case_of_the_document(self):
        told = upon(SEVENTH, TENTH)
        self.assertEqual(told[0], 70)
        self.assertEqual(days_of(told, 0, 36), [7, 14, 28, 35])

    def test_until_in_the_case_of_the_document(self):
        told = until(SEVENTH, TENTH)
        self.assertEqual(told[0], 70)
        self.assertEqual(days_of(told, 0, 29), [0, 7, 21, 28])

    def test_near_in_the_case_of_the_document(self):
        told = near(SEVENTH, TENTH)
        self.assertEqual(told[0], 70)
        self.assertEqual(days_of(told, 0, 36), [0, 14, 21, 35])

    def test_below_nought_and_far_off(self):
        for call in (upon, until, near):
            told = call(SEVENTH, TENTH)
            for shift in (-70, 70 * FAR, -70 * FAR):
                self.assertEqual(days_of(told, shift, shift + 70), [day + shift for day in days_of(told, 0, 70)])

    def test_an_s_day_that_is_an_r_day(self):
        for call in (upon, until, near):
            self.assertEqual(call((6, 0b100101), (6, 0b000100)), (6, 0b000100))

    def test_of_two_as_near_the_earlier_one(self):
        self.assertEqual(near((4, 1), (4, 1 << 2)), (4, 1))
        self.assertEqual(near((10, 1 << 1 | 1 << 5), (10, 1 << 3)), (10, 1 << 1))
        self.assertEqual(near((10, 1 << 9 | 1 << 5), (10, 1 << 2)), (10, 1 << 9))
        self.assertEqual(near((10, 1 << 9 | 1 << 1), (10, 1)), (10, 1 << 9))

    def test_near_on_either_side(self):
        self.assertEqual(near((10, 1 << 1 | 1 << 6), (10, 1 << 3)), (10, 1 << 1))
        self.assertEqual(near((10, 1 << 1 | 1 << 6), (10, 1 << 4)), (10, 1 << 6))
        self.assertEqual(near((10, 1 << 1 | 1 << 6), (10, 1 << 9)), (10, 1 << 1))

    def test_the_size_is_the_common_one_least_or_not(self):
        for call in (upon, until, near, till):
            with self.subTest(call=call.__name__):
                self.assertEqual(call((4, 0b0101), (6, 0b111111)), (12, 0b010101010101))
                self.assertEqual(call((1, 1), (5, 31)), (5, 31))

    def test_too_long(self):
        for R, S in (((LONGEST, 1), (7, 1)), ((388, 1), (387, 1)), ((7, 0), (LONGEST, 0)), ((LONGEST, 0), (149999, 1))):
            for call in (upon, until, near, till):
                with self.subTest(call=call.__name__, sizes=(R[0], S[0])):
                    self.assert_too_long(math.lcm(R[0], S[0]), call, R, S)

    def test_the_greatest_size(self):
        S = (LONGEST, 1 << 100)
        R = (LONGEST, 1 << 99 | 1 << 149999)
        self.assertEqual(upon(R, S), (LONGEST, 1 << 149999))
        self.assertEqual(until(R, S), (LONGEST, 1 << 99))
        self.assertEqual(near(R, S), (LONGEST, 1 << 99))
        self.assertEqual(upon((9375, 1), (16, 1))[0], LONGEST)
        every_day = (LONGEST, (1 << LONGEST) - 1)
        for call in (upon, until, near):
            self.assertEqual(call(every_day, every_day), every_day)
            self.assertEqual(call(every_day, S), S)


class Till(RoundCase):
    def test_from_an_r_day_to_the_day_ahead_of_the_next_s_day(self):
        self.assertEqual(till((10, 1 << 2), (10, 1 << 5)), (10, 0b11100))
        self.assertEqual(till((10, 1 << 8), (10, 1 << 1)), (10, 0b1100000001))

    def test_an_s_day_that_is_the_r_day_itself_does_not_end_it(self):
        self.assertEqual(till((10, 1 << 2), (10, 1 << 2 | 1 << 5)), (10, 0b11100))
        self.assertEqual(till((10, 1 << 2), (10, 1 << 2)), (10, 1023))

    def test_an_s_day_that_is_no_r_day_is_never_in_it(self):
        told = till((10, 1 << 2 | 1 << 7), (10, 1 << 4 | 1 << 5 | 1 << 9))
        self.assertEqual(days_of(told, 0, 10), [2, 3, 7, 8])

    def test_stretches_that_lie_over_one_another(self):
        self.assertEqual(till((10, 0b1110), (10, 1 << 6)), (10, 0b111110))

    def test_where_r_has_days_and_s_has_none(self):
        self.assertEqual(till((4, 1), (6, 0)), (12, 4095))
        self.assertEqual(till((LONGEST, 1), (1, 0)), (LONGEST, (1 << LONGEST) - 1))

    def test_the_greatest_size(self):
        told = till((LONGEST, 1 << 149998), (LONGEST, 1 << 2))
        self.assertEqual(told, (LONGEST, 1 << 149998 | 1 << 149999 | 3))
        self.assertEqual(till((1, 1), (LONGEST, 1)), (LONGEST, (1 << LONGEST) - 1))


class Kth(RoundCase):
    # Of each span of ten days these are the days 1, 4, 5 and 8.
    R = (10, 1 << 1 | 1 << 4 | 1 << 5 | 1 << 8)
    S = (10, 1)

    def test_counted_from_either_end(self):
        told = {1: 1, 2: 4, 3: 5, 4: 8, -1: 8, -2: 5, -3: 4, -4: 1}
        for number, day in told.items():
            with self.subTest(number=number):
                self.assertEqual(kth(number, self.R, self.S), (10, 1 << day))

    def test_the_s_day_is_in_its_span_and_the_next_one_is_not(self):
        every_day = (1, 1)
        self.assertEqual(kth(1, every_day, (5, 1 << 3)), (5, 1 << 3))
        self.assertEqual(kth(-1, every_day, (5, 1 << 3)), (5, 1 << 2))
        self.assertEqual(kth(5, every_day, (5, 1 << 3)), (5, 1 << 2))
        self.assertEqual(kth(6, every_day, (5, 1 << 3)), (5, 0))

    def test_spans_with_fewer_days_have_none(self):
        S = (10, 1 | 1 << 5)
        self.assertEqual(days_of(kth(2, self.R, S), 0, 10), [4, 8])
        self.assertEqual(days_of(kth(2, self.R, (10, 1 | 1 << 6)), 0, 10), [4])
        self.assertEqual(kth(3, self.R, S), (10, 0))
        self.assertEqual(kth(-3, self.R, S), (10, 0))

    def test_numbers_greater_than_any_span_has_days(self):
        for number in (5, -5, 11, LONGEST + 1, FAR, -FAR):
            with self.subTest(number=number):
                self.assertEqual(kth(number, self.R, self.S), (10, 0))

    def test_a_span_over_the_rounds_end(self):
        self.assertEqual(days_of(kth(1, (7, 1), (10, 1 << 3)), 0, 35), days_of(upon((7, 1), (10, 1 << 3)), 0, 35))
        self.assertEqual(kth(2, (10, 1 << 9 | 1 << 1), (10, 1 << 5)), (10, 1 << 1))
        self.assertEqual(kth(-2, (10, 1 << 9 | 1 << 1), (10, 1 << 5)), (10, 1 << 9))

    def test_the_number_nought_is_refused_ahead_of_too_long(self):
        for R, S in ((self.R, self.S), ((LONGEST, 1), (7, 1)), ((3, 0), (2, 0))):
            with self.subTest(sizes=(R[0], S[0])):
                with self.assertRaises(NoNumber):
                    kth(0, R, S)

    def test_too_long(self):
        for number in (1, -1, FAR):
            self.assert_too_long(7 * LONGEST, kth, number, (LONGEST, 1), (7, 1))
            self.assert_too_long(388 * 387, kth, number, (388, 0), (387, 0))

    def test_the_greatest_size(self):
        every_day = (LONGEST, (1 << LONGEST) - 1)
        self.assertEqual(kth(LONGEST, every_day, (LONGEST, 1 << 9)), (LONGEST, 1 << 8))
        self.assertEqual(kth(-LONGEST, every_day, (LONGEST, 1 << 9)), (LONGEST, 1 << 9))
        self.assertEqual(kth(1, every_day, every_day), every_day)
        self.assertEqual(kth(2, every_day, every_day), (LONGEST, 0))


class Every(RoundCase):
    def check(self, number, R, day):
        told = every(number, R, day)
        self.assert_round(told)
        size = R[0] * number
        self.assertEqual(told[0], size)
        forth = days_of(R, day, day + 2 * size)
        back = days_of(R, day - 2 * size, day)
        asked = back[::-1][number - 1::number][::-1] + forth[::number]
        self.assertEqual(days_of(told, day - 2 * size, day + 2 * size), asked)

    def test_the_case_of_the_document(self):
        told = every(2, SEVENTH, 3)
        self.assertEqual(told[0], 14)
        self.assertEqual(days_of(told, -20, 40), [-7, 7, 21, 35])

    def test_against_walking(self):
        for size in (1, 2, 3, 4, 7):
            for seed in range(3):
                R = some_round(size, seed)
                for number in (1, 2, 3, 5):
                    for day in (-FAR, -9, -1, 0, 1, 3, 8, FAR):
                        with self.subTest(R=R, number=number, day=day):
                            self.check(number, R, day)

    def test_from_a_day_of_the_round_and_from_beside_one(self):
        R = (10, 0b1001000100)
        self.assertEqual(days_of(every(3, R, 2), 0, 30), [2, 12, 22])
        self.assertEqual(days_of(every(3, R, 3), 0, 30), [6, 16, 26])
        self.assertEqual(days_of(every(2, R, 9), -10, 20), [-4, 2, 9, 16])

    def test_the_number_one(self):
        for R in (SEVENTH, (3, 5), (1, 0), (1, 1)):
            for day in (-5, 0, FAR):
                self.assertEqual(every(1, R, day), R)

    def test_wrong_numbers(self):
        for number in BELOW_ONE:
            for R in (SEVENTH, (LONGEST, 1), (3, 0)):
                with self.subTest(number=number, size=R[0]):
                    with self.assertRaises(NoNumber):
                        every(number, R, 0)

    def test_too_long(self):
        self.assert_too_long(2 * LONGEST, every, 2, (LONGEST, 1), 0)
        self.assert_too_long(7 * 21429, every, 21429, SEVENTH, 5)
        self.assert_too_long(7 * FAR, every, FAR, SEVENTH, 5)
        self.assert_too_long(LONGEST + 1, every, LONGEST + 1, (1, 0), 5)

    def test_the_greatest_size(self):
        self.assertEqual(every(21428, SEVENTH, 1), (149996, 1 << 7))
        self.assertEqual(every(LONGEST, (1, 1), -1), (LONGEST, 1 << 149999))
        self.assertEqual(every(1, (LONGEST, 9), 0), (LONGEST, 9))


class Mirrored(RoundCase):
    def test_day_by_day_and_twice(self):
        for size in (1, 2, 3, 4, 5, 30, 255, 256, 257, 600):
            for seed in range(4):
                turn = some_round(size, seed)
                with self.subTest(turn=turn):
                    told = mirrored(turn)
                    self.assert_round(told)
                    self.assertEqual(told[0], size)
                    self.assertEqual(days_of(told), [d for d in range(-40, 41) if holds(turn, -d)])
                    self.assertEqual(mirrored(told), turn)

    def test_written_out(self):
        self.assertEqual(mirrored((7, 0b0000011)), (7, 0b1000001))
        self.assertEqual(mirrored((1, 1)), (1, 1))
        self.assertEqual(mirrored((4, 0)), (4, 0))

    def test_the_greatest_size(self):
        self.assertEqual(mirrored((LONGEST, 0b11)), (LONGEST, 1 << 149999 | 1))
        self.assertEqual(mirrored((LONGEST, (1 << LONGEST) - 1)), (LONGEST, (1 << LONGEST) - 1))


class WithoutDays(RoundCase):
    """Point 19."""

    def calls(self):
        yield from ((name.__name__, name) for name in (upon, until, near, till))
        for number in (1, 2, -1, FAR):
            yield f"kth {number}", lambda R, S, number=number: kth(number, R, S)

    def test_r_without_days(self):
        for name, call in self.calls():
            for S in ((6, 1), (6, 63), (1, 1), (6, 0)):
                with self.subTest(call=name, S=S):
                    self.assertEqual(call((4, 0), S), (math.lcm(4, S[0]), 0))

    def test_s_without_days(self):
        for name, call in self.calls():
            for R in ((6, 1), (6, 63), (1, 1)):
                with self.subTest(call=name, R=R):
                    size = math.lcm(4, R[0])
                    self.assertEqual(call(R, (4, 0)), (size, (1 << size) - 1 if name == "till" else 0))

    def test_every_of_a_round_without_days(self):
        for day in (-FAR, 0, 5):
            self.assertEqual(every(3, (4, 0), day), (12, 0))
