"""What several tests ask with: the document's words, walked day by day."""

import unittest

from feastwheel.errors import TooLong

LONGEST = 150000
FAR = 10 ** 99
BELOW_ONE = [0, -1, -3, -FAR]
# Things that are no texts; a number may have any size.
NO_TEXTS = [None, 0, 5, -5, FAR, 1 << 200000, -(10 ** 5000), True, False, [], ["5"], ("5",), {"5": 5}, 5.0, b"5",
            (7, 3, 4)]


def holds(turn, day):
    """The words of point 8, not the program's own function."""
    size, bits = turn
    return (bits >> (day % size)) & 1 == 1


def days_of(turn, first=-40, end=41):
    return [day for day in range(first, end) if holds(turn, day)]


def some_round(size, seed):
    """A round with about half of its days, always the same one for a size and a seed."""
    bits = 0
    state = seed * 7919 + size
    for place in range(size):
        state = (state * 1103515245 + 12345) % (1 << 31)
        bits |= (state >> 17 & 1) << place
    return (size, bits)


class RoundCase(unittest.TestCase):
    def assert_round(self, turn):
        self.assertIs(type(turn), tuple)
        self.assertEqual([type(part) for part in turn], [int, int])
        self.assertTrue(1 <= turn[0] <= LONGEST)
        self.assertTrue(0 <= turn[1] < 1 << turn[0])

    def assert_too_long(self, needed, call, *given):
        with self.assertRaises(TooLong) as taken:
            call(*given)
        self.assertEqual(taken.exception.needed, needed)


# The months and the terms of the calendars of point 33.
TWELVE = [31, 28, 31, 30, 31, 30, 31, 31, 30, 31, 30, 31]
FOURTH = (1, 1, 3, 4)
GREGORIAN = [FOURTH, (-1, 1, 99, 100), (1, 1, 399, 400)]
# The period of these has eighteen figures.
LONG_TERMS = [(1, 1, 0, 997), (-1, 500, 3, 991), (1, 982, 982, 983), (-1, 3, 9, 977), (1, 970, 5, 971), (-1, 1, 0, 967)]


def term_is_on(term, k):
    """The words of point 20."""
    sign, a, b, n = term
    return (a * k + b) % n + a >= n


def signs_in(terms, k):
    return sum(term[0] for term in terms or [] if term_is_on(term, k))
