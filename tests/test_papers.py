"""Points 2 and 34 to 36: feastwheel.papers."""

import inspect
import itertools
import math
import unittest

from feastwheel import papers
from feastwheel.papers import meeting, same, stands, within
from helper import FAR, LONGEST, RoundCase, holds, some_round

DAYS = (0, 1, -1, 7, -23, 1000)
HUGE = 1 << 200000


def pairs_of_rounds():
    """Every pair of small rounds, and some of middling ones."""
    for size, other in ((1, 1), (1, 3), (2, 2), (2, 3), (4, 2), (2, 4), (3, 3)):
        for bits, other_bits in itertools.product(range(1 << size), range(1 << other)):
            yield (size, bits), (other, other_bits)
    for size, other in ((4, 6), (6, 4), (3, 5), (6, 12), (10, 15), (7, 9), (30, 42)):
        for seed in range(5):
            one = some_round(size, seed)
            two = some_round(other, seed + 50)
            yield one, two
            yield one, (other, two[1] & some_round(other, seed + 90)[1])
            yield (size, 1 << seed % size), two
            yield (size, 1 << seed % size), (other, 1 << seed % 3)


def first_walked(says, one, other, day):
    """The first day from day on of which the words are true, by walking one common round."""
    for found in range(day, day + math.lcm(one[0], other[0])):
        if says(holds(one, found), holds(other, found)):
            return found
    return None


def folded_bits(turn, size):
    """The words of point 12."""
    return sum(1 << rest for rest in range(size) if any(holds(turn, day) for day in range(rest, turn[0], size)))


def least_of(turn):
    """The words of point 10."""
    for size in range(1, turn[0] + 1):
        if all(holds(turn, day) == holds(turn, day + size) for day in range(turn[0])):
            return (size, turn[1] & ((1 << size) - 1))


def others(turn):
    return (turn[0], turn[1] ^ ((1 << turn[0]) - 1))


def on_days(size, days):
    return (size, sum(1 << day for day in days))


class Interface(unittest.TestCase):
    def test_names_and_arguments(self):
        for name in ("same", "meeting", "within"):
            self.assertEqual(list(inspect.signature(getattr(papers, name)).parameters), ["one", "other", "day"])
        self.assertEqual(list(inspect.signature(papers.stands).parameters), ["paper", "one", "other"])


class Same(RoundCase):
    def test_against_walking(self):
        for one, other in pairs_of_rounds():
            for day in DAYS:
                found = first_walked(lambda p, q: p != q, one, other, day)
                asked = ("same", least_of(one)) if found is None else ("parted", found)
                self.assertEqual(same(one, other, day), asked, (one, other, day))

    def test_same_days_by_unlike_sizes(self):
        self.assertEqual(same((6, 0b010101), (4, 0b0101), 5), ("same", (2, 1)))
        self.assertEqual(same((6, 0b001001), (3, 1), -5), ("same", (3, 1)))
        self.assertEqual(same((100000, 1 | 1 << 50000), (150000, 1 | 1 << 50000 | 1 << 100000), FAR),
                         ("same", (50000, 1)))

    def test_same_days_by_the_same_size(self):
        for turn in ((1, 1), (7, 5), some_round(LONGEST, 3)):
            self.assertEqual(same(turn, turn, 0), ("same", least_of(turn) if turn[0] < 9 else turn))

    def test_both_without_days_and_both_with_all(self):
        self.assertEqual(same((4, 0), (149999, 0), 3), ("same", (1, 0)))
        self.assertEqual(same((4, 15), (149999, (1 << 149999) - 1), 3), ("same", (1, 1)))
        self.assertEqual(same((5, 0), (3, 7), -FAR), ("parted", -FAR))

    def test_the_answer_is_plain(self):
        paper = same((6, 0b010101), (4, 0b0101), 5)
        self.assertIs(type(paper), tuple)
        self.assert_round(paper[1])

    def test_far_off(self):
        one, other = (7, 1), (10, 1 << 3)
        for day in (FAR, -FAR, FAR + 3, -FAR - 11):
            near = day % 70
            walked = first_walked(lambda p, q: p != q, one, other, near)
            self.assertEqual(same(one, other, day), ("parted", walked - near + day))

    def test_the_last_day_that_the_bound_lets_be(self):
        # These agree on every day from 0 on up to the sum of both sizes less g less 2.
        for size, g in ((2, 1), (5, 1), (2, 3), (9, 4), (149999, 1), (49999, 3), (74999, 2)):
            place = g * size - 1
            one, other = (g * size, 1 << place), (g * (size + 1), 1 << place)
            last = one[0] + other[0] - g - 1
            self.assertEqual(same(one, other, 0), ("parted", last))
            self.assertEqual(same(other, one, 0), ("parted", last))

    def test_common_size_far_above_the_longest(self):
        one = on_days(149999, [0, 5])
        other = on_days(LONGEST, [0, 5])
        self.assertEqual(same(one, other, 0), ("parted", 149999))
        self.assertEqual(same(one, other, 149999 * LONGEST - 1), ("parted", 149999 * LONGEST + 149999))
        self.assertEqual(same(one, other, -3), ("parted", 149999))
        self.assertEqual(same(one, other, -LONGEST), ("parted", -LONGEST))


class Meeting(RoundCase):
    def test_against_walking(self):
        for one, other in pairs_of_rounds():
            g = math.gcd(one[0], other[0])
            for day in DAYS:
                found = first_walked(lambda p, q: p and q, one, other, day)
                asked = ("meet", found)
                if found is None:
                    asked = ("never", g, folded_bits(one, g), folded_bits(other, g))
                self.assertEqual(meeting(one, other, day), asked, (one, other, day))

    def test_without_days_and_with_all(self):
        self.assertEqual(meeting((4, 0), (6, 63), 2), ("never", 2, 0, 3))
        self.assertEqual(meeting((4, 15), (6, 0), 2), ("never", 2, 3, 0))
        self.assertEqual(meeting((4, 0), (6, 0), 2), ("never", 2, 0, 0))
        self.assertEqual(meeting((4, 15), (6, 63), -FAR), ("meet", -FAR))

    def test_far_off(self):
        for day in (FAR, -FAR, FAR + 1, -FAR + 20):
            near = day % 70
            walked = first_walked(lambda p, q: p and q, (7, 1), (10, 1 << 3), near)
            self.assertEqual(meeting((7, 1), (10, 1 << 3), day), ("meet", walked - near + day))

    def test_by_pairs_of_days_where_the_common_size_is_too_great(self):
        # Alike to 3 by 149999 and to 5 by 150000 is 3 - 2 * 149999, and 149999 * 150000 from it on.
        one, other = on_days(149999, [3]), on_days(LONGEST, [5])
        first = 3 - 2 * 149999
        around = 149999 * LONGEST
        for day, asked in ((first, first), (first + 1, first + around), (first - around + 1, first),
                           (FAR, FAR + (first - FAR) % around)):
            self.assertEqual(meeting(one, other, day), ("meet", asked))
        many = on_days(149999, [3, 7, 9, 1000])
        self.assertEqual(meeting(many, on_days(LONGEST, [5, 1000]), 17), ("meet", 1000))
        self.assertIn(meeting(many, on_days(LONGEST, [5, 1000]), 1001)[1] % 149999, (3, 7, 9, 1000))

    def test_pairs_that_never_meet_beside_pairs_that_do(self):
        # Both sizes are even: an even day and an odd one are never alike.
        one, other = on_days(99998, [0, 1]), on_days(100000, [2])
        found = meeting(one, other, 0)
        self.assertEqual(found, ("meet", 99998 * 49999))
        self.assertTrue(holds(one, found[1]) and holds(other, found[1]))

    def test_too_long_begins_above_a_thousand_pairs(self):
        around = 149999 * LONGEST
        forty = on_days(149999, range(40))
        self.assertEqual(meeting(forty, on_days(LONGEST, range(25)), 0), ("meet", 0))
        self.assertEqual(meeting(forty, on_days(LONGEST, range(25)), 1)[0], "meet")
        self.assert_too_long(around, meeting, forty, on_days(LONGEST, range(26)), 0)
        thousand = on_days(149999, range(1000))
        self.assertEqual(meeting(thousand, on_days(LONGEST, [7]), 0), ("meet", 7))
        self.assert_too_long(around, meeting, on_days(149999, range(1001)), on_days(LONGEST, [7]), 0)
        self.assert_too_long(around, meeting, on_days(149999, [7]), on_days(LONGEST, range(1001)), 0)

    def test_days_are_counted_as_handed_in(self):
        # Its least round has size 2 and one day, but 35000 days stand in the round.
        evens = on_days(70000, range(0, 70000, 2))
        self.assert_too_long(70000 * 149999, meeting, evens, on_days(149999, [4]), 0)
        self.assertEqual(meeting((2, 1), on_days(149999, [4]), 0), ("meet", 4))

    def test_a_common_size_of_the_longest_is_not_refused(self):
        one, other = some_round(75000, 1), some_round(50000, 2)
        found = meeting(one, other, FAR)
        self.assertEqual(found[1], next(day for day in range(FAR, FAR + 99) if holds(one, day) and holds(other, day)))
        self.assert_too_long(150002, meeting, on_days(2, [0, 1]), on_days(75001, range(75001)), 0)

    def test_never_is_never_refused(self):
        one = on_days(149998, range(0, 149998, 2))
        other = on_days(LONGEST, range(1, LONGEST, 2))
        self.assertEqual(meeting(one, other, FAR), ("never", 2, 1, 2))


class Within(RoundCase):
    def test_against_walking(self):
        for one, other in pairs_of_rounds():
            g = math.gcd(one[0], other[0])
            for day in DAYS:
                found = first_walked(lambda p, q: p and not q, one, other, day)
                asked = ("outside", found)
                if found is None:
                    asked = ("within", g, folded_bits(one, g), folded_bits(others(other), g))
                self.assertEqual(within(one, other, day), asked, (one, other, day))

    def test_without_days_and_with_all(self):
        self.assertEqual(within((4, 0), (6, 5), 0), ("within", 2, 0, 3))
        self.assertEqual(within((4, 0), (6, 0), 0), ("within", 2, 0, 3))
        self.assertEqual(within((4, 0), (6, 63), 0), ("within", 2, 0, 0))
        self.assertEqual(within((4, 2), (6, 63), 0), ("within", 2, 2, 0))
        self.assertEqual(within((4, 15), (6, 63), 0), ("within", 2, 3, 0))
        self.assertEqual(within((4, 2), (6, 0), 2), ("outside", 5))
        self.assertEqual(within((4, 15), (6, 0), -FAR), ("outside", -FAR))
        self.assertEqual(within((4, 15), (6, 62), 1), ("outside", 6))

    def test_refused_as_the_meeting_with_the_other_days(self):
        around = 149999 * LONGEST
        forty = on_days(149999, range(40))
        self.assertEqual(within(forty, others(on_days(LONGEST, range(25))), 0), ("outside", 0))
        self.assert_too_long(around, within, forty, others(on_days(LONGEST, range(26))), 0)
        self.assert_too_long(around, within, on_days(149999, [0]), on_days(LONGEST, range(1, 9)), 0)

    def test_within_is_never_refused(self):
        evens = on_days(149998, range(0, 149998, 2))
        self.assertEqual(within(evens, on_days(LONGEST, range(0, LONGEST, 2)), 0), ("within", 2, 1, 2))


class Stands(unittest.TestCase):
    def assert_stands(self, asked, paper, one, other):
        with self.subTest(paper=paper[:1], one=one[0], other=other[0]):
            self.assertIs(stands(paper, one, other), asked)

    def test_every_right_paper_stands(self):
        for one, other in pairs_of_rounds():
            for day in (0, -23):
                for ask in (same, meeting, within):
                    self.assert_stands(True, ask(one, other, day), one, other)

    def test_papers_of_long_rounds_stand(self):
        one, other = on_days(149999, [3]), on_days(LONGEST, [5])
        for ask in (same, meeting):
            self.assert_stands(True, ask(one, other, FAR), one, other)
        evens, odds = on_days(149998, range(0, 149998, 2)), on_days(LONGEST, range(1, LONGEST, 2))
        self.assert_stands(True, meeting(evens, odds, 0), evens, odds)
        self.assert_stands(True, within(evens, others(odds), 0), evens, others(odds))

    def test_papers_of_a_day(self):
        one, other = (7, 1 | 2), (10, 1 | 1 << 3)
        for day in list(range(-80, 80)) + [FAR, FAR + 1, -FAR, HUGE, -HUGE, 70 * HUGE, 70 * HUGE + 1]:
            p, q = holds(one, day), holds(other, day)
            self.assert_stands(p != q, ("parted", day), one, other)
            self.assert_stands(p and q, ("meet", day), one, other)
            self.assert_stands(p and not q, ("outside", day), one, other)

    def test_a_day_that_is_not_the_first(self):
        self.assert_stands(True, ("meet", 70), (7, 1), (10, 1))
        self.assert_stands(True, ("parted", 14), (7, 1), (10, 1))
        self.assert_stands(True, ("outside", -14), (7, 1), (10, 1))
        self.assert_stands(False, ("outside", 10), (7, 1), (10, 1))

    def test_same_by_a_round_that_is_not_the_least(self):
        one, other = (12, 0b010101010101), (24, 0x555555)
        for size in (2, 4, 6, 12):
            bits = sum(1 << place for place in range(0, size, 2))
            self.assert_stands(True, ("same", (size, bits)), one, other)
            self.assert_stands(False, ("same", (size, bits << 1)), one, other)
            self.assert_stands(False, ("same", (size, bits | 2)), one, other)
            self.assert_stands(False, ("same", (size, bits - 1)), one, other)

    def test_same_of_rounds_that_are_not(self):
        self.assert_stands(False, ("same", (2, 1)), (4, 5), (6, 0b010111))
        self.assert_stands(False, ("same", (2, 1)), (4, 7), (6, 0b010101))
        self.assert_stands(True, ("same", (2, 1)), (4, 5), (6, 0b010101))

    def test_same_with_a_wrong_size(self):
        one, other = (4, 5), (12, 0x555)
        for size in (0, -1, -2, -4, 3, 5, 8, 12, 24, FAR, -FAR, HUGE, -HUGE):
            for bits in (0, 1, 5, 0x555, -1, HUGE):
                self.assert_stands(False, ("same", (size, bits)), one, other)
        self.assert_stands(False, ("same", (12, 0x555)), other, one)

    def test_same_with_wrong_bits(self):
        one, other = (4, 5), (12, 0x555)
        for bits in (-1, -3, 1 + 4, 1 + 8, 1 + 4 * HUGE, 1 - 4, -HUGE, HUGE):
            self.assert_stands(False, ("same", (2, bits)), one, other)
        self.assert_stands(False, ("same", (1, 2)), (1, 0), (1, 0))
        self.assert_stands(False, ("same", (1, -1)), (1, 1), (1, 1))

    def test_never_with_bits_of_more_days_than_needed(self):
        one, other = (12, 1), (18, 2)
        for bits, other_bits in ((1, 2), (1 | 4, 2), (1, 2 | 8), (1 | 4 | 16, 2 | 8 | 32)):
            self.assert_stands(True, ("never", 6, bits, other_bits), one, other)
            self.assert_stands(True, ("within", 6, bits, other_bits), one, others(other))
        for bits, other_bits in ((1 | 4, 2 | 4), (3, 2), (1, 3), (63, 63), (1, 1)):
            self.assert_stands(False, ("never", 6, bits, other_bits), one, other)
            self.assert_stands(False, ("within", 6, bits, other_bits), one, others(other))

    def test_never_with_bits_of_fewer_days(self):
        one, other = (12, 1 | 4), (18, 2 | 1 << 9)
        self.assert_stands(True, ("never", 6, 5, 10), one, other)
        for bits, other_bits in ((1, 10), (4, 10), (0, 10), (5, 2), (5, 8), (5, 0), (0, 0), (10, 5)):
            self.assert_stands(False, ("never", 6, bits, other_bits), one, other)
            self.assert_stands(False, ("within", 6, bits, other_bits), one, others(other))

    def test_never_by_a_lesser_size(self):
        one, other = (12, 1 | 4), (18, 2 | 8)
        self.assert_stands(True, ("never", 2, 1, 2), one, other)
        self.assert_stands(False, ("never", 3, 5, 3), one, other)
        self.assert_stands(False, ("never", 1, 1, 1), one, other)
        self.assert_stands(True, ("never", 1, 1, 0), one, (18, 0))
        self.assert_stands(True, ("never", 1, 0, 1), (12, 0), other)
        self.assert_stands(True, ("within", 1, 1, 0), one, (18, (1 << 18) - 1))

    def test_never_with_a_wrong_size(self):
        one, other = (12, 0), (18, 0)
        for size in (0, -1, -6, 4, 9, 12, 18, 36, 5, 7, FAR, -FAR, HUGE, -HUGE):
            for word in ("never", "within"):
                self.assert_stands(False, (word, size, 0, 0), one, other)
                self.assert_stands(False, (word, size, 1, 0), one, other)
        self.assert_stands(True, ("never", 6, 0, 0), one, other)
        self.assert_stands(True, ("within", 6, 0, 63), one, other)

    def test_never_with_wrong_bits(self):
        one, other = (12, 1), (18, 2)
        for bits in (-1, -63, 1 | 64, 1 | HUGE, -HUGE, 1 - HUGE):
            self.assert_stands(False, ("never", 6, bits, 2), one, other)
            self.assert_stands(False, ("within", 6, bits, 2), one, others(other))
        for bits in (-2, 2 | 64, 2 | HUGE, -HUGE, 2 - HUGE):
            self.assert_stands(False, ("never", 6, 1, bits), one, other)
            self.assert_stands(False, ("within", 6, 1, bits), one, others(other))

    def test_within_takes_the_other_days_of_the_second(self):
        one, other = (4, 1), (6, 0b010101)
        self.assert_stands(True, ("within", 2, 1, 2), one, other)
        self.assert_stands(False, ("never", 2, 1, 2), one, other)
        self.assert_stands(False, ("within", 2, 1, 2), one, (6, 0b010111 ^ 1))
        self.assert_stands(False, ("within", 2, 1, 0), one, other)
