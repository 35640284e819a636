"""Points 2 and 8 to 12: feastwheel.rounds."""

import inspect
import itertools
import math
import unittest

from feastwheel import rounds
from feastwheel.errors import NoNumber
from feastwheel.rounds import (
    both, either, folded, later, least, on, other_days, round_by, stretched, unlike, without,
)
from helper import BELOW_ONE, FAR, LONGEST, RoundCase, days_of, holds

ALL_SMALL = [(size, bits) for size in range(1, 7) for bits in range(1 << size)]


class Interface(unittest.TestCase):
    def test_names_and_arguments(self):
        told = {
            "round_by": ["size", "days"],
            "on": ["turn", "day"],
            "stretched": ["turn", "size"],
            "least": ["turn"],
            "both": ["one", "other"],
            "either": ["one", "other"],
            "unlike": ["one", "other"],
            "without": ["one", "other"],
            "other_days": ["turn"],
            "later": ["turn", "number"],
            "folded": ["turn", "size"],
        }
        for name, arguments in told.items():
            with self.subTest(name):
                self.assertEqual(list(inspect.signature(getattr(rounds, name)).parameters), arguments)


class On(unittest.TestCase):
    def test_the_round_of_the_document(self):
        self.assertEqual([day for day in range(-4, 7) if on((3, 5), day)], [-4, -3, -1, 0, 2, 3, 5, 6])

    def test_every_small_round_on_days_below_and_above_nought(self):
        for turn in ALL_SMALL:
            for day in range(-13, 14):
                with self.subTest(turn=turn, day=day):
                    self.assertIs(on(turn, day), holds(turn, day))

    def test_far_off(self):
        self.assertIs(on((3, 5), 3 * FAR + 2), True)
        self.assertIs(on((3, 5), 3 * FAR + 1), False)
        self.assertIs(on((3, 5), -3 * FAR - 1), True)
        self.assertIs(on((3, 5), -3 * FAR - 2), False)

    def test_the_least_and_the_greatest_size(self):
        self.assertIs(on((1, 0), 5), False)
        self.assertIs(on((1, 1), -5), True)
        turn = (LONGEST, 1 << (LONGEST - 1))
        self.assertEqual([on(turn, day) for day in (-1, 0, LONGEST - 1, LONGEST)], [True, False, True, False])


class RoundBy(RoundCase):
    def test_without_days(self):
        self.assertEqual(round_by(1, []), (1, 0))
        self.assertEqual(round_by(7, []), (7, 0))

    def test_ordinary_days(self):
        self.assertEqual(round_by(3, [0, 2]), (3, 5))
        self.assertEqual(round_by(3, [2, 0]), (3, 5))

    def test_days_twice_and_days_alike(self):
        self.assertEqual(round_by(3, [0, 2, 0, 2]), (3, 5))
        self.assertEqual(round_by(3, [0, 2, 3, 5, -1]), (3, 5))

    def test_days_below_nought_and_far_off(self):
        self.assertEqual(round_by(3, [-1]), (3, 4))
        self.assertEqual(round_by(3, [-3, -4]), (3, 5))
        self.assertEqual(round_by(3, [3 * FAR + 1, -3 * FAR - 1]), (3, 6))

    def test_just_the_days_alike(self):
        for size in range(1, 8):
            for days in itertools.combinations(range(-9, 10, 4), 2):
                with self.subTest(size=size, days=days):
                    turn = round_by(size, list(days))
                    self.assertEqual(turn[0], size)
                    self.assert_round(turn)
                    alike = [d for d in range(-40, 41) if any((d - day) % size == 0 for day in days)]
                    self.assertEqual(days_of(turn), alike)

    def test_just_this_size_though_a_lesser_one_would_do(self):
        self.assertEqual(round_by(4, [0, 2]), (4, 5))
        self.assertEqual(round_by(4, [0, 1, 2, 3]), (4, 15))

    def test_the_least_and_the_greatest_size(self):
        self.assertEqual(round_by(1, [5, -FAR]), (1, 1))
        self.assertEqual(round_by(LONGEST, []), (LONGEST, 0))
        self.assertEqual(round_by(LONGEST, [-1, LONGEST]), (LONGEST, 1 << (LONGEST - 1) | 1))

    def test_a_thousand_days(self):
        turn = round_by(LONGEST, list(range(-500, 500)))
        self.assertEqual(days_of(turn, -600, 600), list(range(-500, 500)))

    def test_wrong_sizes(self):
        for size in BELOW_ONE:
            with self.subTest(size=size):
                with self.assertRaises(NoNumber):
                    round_by(size, [1])
        for size in (LONGEST + 1, 3 * LONGEST, FAR):
            with self.subTest(size=size):
                self.assert_too_long(size, round_by, size, [])
                self.assert_too_long(size, round_by, size, [1, 2])

    def test_the_list_stays_as_it_was(self):
        days = [9, -4, 9, 0]
        turn = round_by(5, days)
        self.assertEqual(days, [9, -4, 9, 0])
        days.append(2)
        self.assertEqual(turn, (5, 0b10011))
        self.assertEqual(round_by(5, [9, -4, 9, 0]), turn)


class Stretched(RoundCase):
    def test_every_small_round(self):
        for turn in ALL_SMALL:
            for times in range(1, 6):
                with self.subTest(turn=turn, times=times):
                    told = stretched(turn, turn[0] * times)
                    self.assert_round(told)
                    self.assertEqual(told[0], turn[0] * times)
                    self.assertEqual(days_of(told), days_of(turn))

    def test_written_out(self):
        self.assertEqual(stretched((3, 5), 3), (3, 5))
        self.assertEqual(stretched((3, 5), 9), (9, 0b101101101))

    def test_up_to_the_greatest_size(self):
        self.assertEqual(stretched((1, 1), LONGEST), (LONGEST, (1 << LONGEST) - 1))
        self.assertEqual(stretched((1, 0), LONGEST), (LONGEST, 0))
        self.assertEqual(stretched((LONGEST, 6), LONGEST), (LONGEST, 6))
        self.assertEqual(stretched((LONGEST // 2, 1), LONGEST), (LONGEST, 1 | 1 << (LONGEST // 2)))

    def test_wrong_sizes(self):
        for size in BELOW_ONE + [1, 2, 4, 5, LONGEST + 1, LONGEST + 2, FAR]:
            with self.subTest(size=size):
                with self.assertRaises(NoNumber):
                    stretched((3, 5), size)
        for size in (LONGEST + 3, 3 * LONGEST, 3 * FAR):
            with self.subTest(size=size):
                self.assert_too_long(size, stretched, (3, 5), size)


class Least(RoundCase):
    def walked(self, turn):
        """The first size, from 1 on, after which the days come again."""
        size, bits = turn
        for less in range(1, size + 1):
            if all(holds(turn, day) == holds(turn, day + less) for day in range(size)):
                return (less, bits & ((1 << less) - 1))

    def test_every_small_round(self):
        for turn in ALL_SMALL:
            with self.subTest(turn=turn):
                told = least(turn)
                self.assertEqual(told, self.walked(turn))
                self.assertEqual(turn[0] % told[0], 0)
                self.assertEqual(days_of(told), days_of(turn))

    def test_every_round_of_twelve(self):
        for bits in range(1 << 12):
            self.assertEqual(least((12, bits)), self.walked((12, bits)))

    def test_stretched_rounds(self):
        for turn in ((4, 1), (4, 5), (9, 0b1001001), (6, 0b100110), (5, 31), (7, 0)):
            for times in (1, 2, 3, 4, 6, 12, 30):
                with self.subTest(turn=turn, times=times):
                    self.assertEqual(least(stretched(turn, turn[0] * times)), self.walked(turn))

    def test_without_days_and_with_all(self):
        for size in (1, 2, 7, 12, 149993, LONGEST):
            with self.subTest(size=size):
                self.assertEqual(least((size, 0)), (1, 0))
                self.assertEqual(least((size, (1 << size) - 1)), (1, 1))

    def test_great_sizes(self):
        self.assertEqual(least((LONGEST, 1)), (LONGEST, 1))
        for size in (1000, 9375, 50000, 75000):
            with self.subTest(size=size):
                self.assertEqual(least(stretched((size, 6), LONGEST)), (size, 6))


class OfTwo(RoundCase):
    CALLS = (
        (both, lambda one, other: one and other),
        (either, lambda one, other: one or other),
        (unlike, lambda one, other: one != other),
        (without, lambda one, other: one and not other),
    )

    def check(self, one, other):
        size = math.lcm(one[0], other[0])
        for call, says in self.CALLS:
            with self.subTest(call=call.__name__, one=one, other=other):
                told = call(one, other)
                self.assert_round(told)
                self.assertEqual(told[0], size)
                asked = [says(holds(one, day), holds(other, day)) for day in range(-size, size)]
                self.assertEqual([holds(told, day) for day in range(-size, size)], asked)

    def test_sizes_alike(self):
        for bits, other_bits in itertools.product(range(16), range(16)):
            self.check((4, bits), (4, other_bits))

    def test_sizes_unlike(self):
        for size, other_size in ((1, 5), (2, 3), (3, 2), (4, 6), (6, 4), (3, 9), (12, 4)):
            for seed in range(1, 40, 6):
                one = (size, seed * 37 & ((1 << size) - 1))
                other = (other_size, seed * 53 & ((1 << other_size) - 1))
                self.check(one, other)

    def test_written_out(self):
        self.assertEqual(both((2, 1), (3, 5)), (6, 0b000101))
        self.assertEqual(either((2, 1), (3, 5)), (6, 0b111101))
        self.assertEqual(unlike((2, 1), (3, 5)), (6, 0b111000))
        self.assertEqual(without((2, 1), (3, 5)), (6, 0b010000))

    def test_the_size_is_common_though_a_lesser_one_would_do(self):
        for call, bits in ((both, 0), (either, 63), (unlike, 63), (without, 0)):
            self.assertEqual(call((2, 0), (3, 7)), (6, bits))

    def test_common_size_of_the_greatest(self):
        one = (400, 1)
        other = (375, 1)
        self.assertEqual(both((LONGEST, 3), (LONGEST, 6)), (LONGEST, 2))
        self.assertEqual(both((9375, 1), (16, 1)), (LONGEST, 1))
        self.assertEqual(both(one, other)[0], 6000)

    def test_common_size_too_long(self):
        for one, other in (((LONGEST, 0), (7, 0)), ((149999, 1), (2, 1)), ((388, 5), (387, 5)),
                           ((LONGEST, 1), (149999, 1)), ((7, 0), (LONGEST, 0))):
            for call, says in self.CALLS:
                with self.subTest(call=call.__name__, sizes=(one[0], other[0])):
                    self.assert_too_long(math.lcm(one[0], other[0]), call, one, other)

    def test_sizes_whose_product_alone_is_too_great(self):
        self.assertEqual(either((1000, 1), (1500, 2))[0], 3000)


class OtherDays(RoundCase):
    def test_every_small_round(self):
        for turn in ALL_SMALL:
            with self.subTest(turn=turn):
                told = other_days(turn)
                self.assert_round(told)
                self.assertEqual(told[0], turn[0])
                self.assertEqual(days_of(told), [d for d in range(-40, 41) if not holds(turn, d)])

    def test_written_out(self):
        self.assertEqual(other_days((3, 5)), (3, 2))
        self.assertEqual(other_days((1, 0)), (1, 1))
        self.assertEqual(other_days((LONGEST, 0)), (LONGEST, (1 << LONGEST) - 1))
        self.assertEqual(other_days((LONGEST, (1 << LONGEST) - 1)), (LONGEST, 0))


class Later(RoundCase):
    def test_every_small_round(self):
        for turn in ALL_SMALL:
            for number in (-13, -6, -5, -2, -1, 0, 1, 2, 5, 6, 13):
                with self.subTest(turn=turn, number=number):
                    told = later(turn, number)
                    self.assert_round(told)
                    self.assertEqual(told[0], turn[0])
                    self.assertEqual(days_of(told), [d for d in range(-40, 41) if holds(turn, d - number)])

    def test_written_out(self):
        self.assertEqual(later((7, 1), 2), (7, 4))
        self.assertEqual(later((7, 1), -2), (7, 32))
        self.assertEqual(later((3, 5), 0), (3, 5))
        self.assertEqual(later((1, 1), 5), (1, 1))

    def test_long_numbers(self):
        self.assertEqual(later((7, 1), 7 * FAR + 2), (7, 4))
        self.assertEqual(later((7, 1), -7 * FAR - 2), (7, 32))
        self.assertEqual(later((LONGEST, 1), LONGEST * FAR - 1), (LONGEST, 1 << (LONGEST - 1)))


class Folded(RoundCase):
    def check(self, turn, size):
        told = folded(turn, size)
        self.assert_round(told)
        self.assertEqual(told[0], size)
        for day in range(-size, size):
            alike = [d for d in range(turn[0]) if (d - day) % size == 0]
            self.assertEqual(holds(told, day), any(holds(turn, d) for d in alike))

    def test_every_small_round_by_each_divisor(self):
        for turn in ALL_SMALL:
            for size in range(1, turn[0] + 1):
                if turn[0] % size == 0:
                    with self.subTest(turn=turn, size=size):
                        self.check(turn, size)

    def test_single_days_and_pairs(self):
        for size in (12, 30, 35):
            for days in itertools.combinations_with_replacement(range(0, size, 3), 2):
                turn = (size, 1 << days[0] | 1 << days[1])
                for part in range(1, size + 1):
                    if size % part == 0:
                        with self.subTest(turn=turn, part=part):
                            self.check(turn, part)

    def test_by_one_by_the_size_and_between(self):
        self.assertEqual(folded((12, 1 << 7), 1), (1, 1))
        self.assertEqual(folded((12, 0), 1), (1, 0))
        self.assertEqual(folded((12, 1 << 7), 12), (12, 1 << 7))
        self.assertEqual(folded((12, 1 << 7 | 1 << 3), 4), (4, 1 << 3))
        self.assertEqual(folded((12, 1 << 7 | 1 << 2), 4), (4, 0b1100))

    def test_great_sizes(self):
        for size in (149993, LONGEST):
            self.assertEqual(folded((size, 1 << (size - 1)), 1), (1, 1))
        self.assertEqual(folded((LONGEST, 1 << (LONGEST - 1)), 2), (2, 2))
        self.assertEqual(folded((LONGEST, 1 << (LONGEST - 1) | 1), 75000), (75000, 1 << 74999 | 1))

    def test_wrong_sizes(self):
        for size in BELOW_ONE + [5, 7, 8, 11, 13, 24, LONGEST + 1, 12 * FAR]:
            with self.subTest(size=size):
                with self.assertRaises(NoNumber):
                    folded((12, 5), size)
