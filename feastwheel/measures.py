"""Measures: a length for each whole number, of a base and of terms (sign, a, b, n)."""

from feastwheel.errors import NoMeasure
from feastwheel.remains import common

GREATEST_BASE = 20000
MOST_TERMS = 6
GREATEST_N = 1000


def term_on(term, k):
    """Tell whether the term is on in the number k."""
    return (term[1] * k + term[2]) % term[3] + term[1] >= term[3]


def signs_upto(terms, k):
    """Tell the sum of the signs over the numbers from 0 to k - 1, minus that from k to -1."""
    # (a k + b) // n is 0 for k = 0, and from k to k + 1 it grows by 1 where the term is on
    # in k, and else not at all: so it is what walking there would count.
    return sum([term[0] * ((term[1] * k + term[2]) // term[3]) for term in terms])


def counter(terms):
    """Tell the function that sums the signs of the terms up to a number."""
    kept = tuple(terms)

    def told(k):
        return signs_upto(kept, k)

    return told


def is_term(term):
    """Tell whether a tuple of four whole numbers is a term."""
    if term[0] != 1 and term[0] != -1:
        return False
    return 1 <= term[3] <= GREATEST_N and 0 <= term[1] <= term[3] and 0 <= term[2] < term[3]


def least_length(base, terms):
    """Tell the base less the number of terms with sign -1."""
    return base - len([term for term in terms if term[0] == -1])


def refuse_measure(base, terms):
    """Refuse a base and terms that make no measure, whatever their lengths come to."""
    if base < 0 or base > GREATEST_BASE:
        raise NoMeasure("a base lies from 0 to 20000")
    if len(terms) > MOST_TERMS:
        raise NoMeasure("a measure has at most six terms")
    if not all([is_term(term) for term in terms]):
        raise NoMeasure("a tuple among the terms is no term")
    if least_length(base, terms) < 0:
        raise NoMeasure("a length could fall below 0")


def period_of(terms):
    """Tell the least number from 1 on that the n of all terms divide."""
    told = 1
    for term in terms:
        told = common(told, term[3])
    return told


class Measure:
    """A length for each whole number: the base, and the signs of the terms that are on."""

    def __init__(self, base, terms=None):
        self.base = base
        self.terms = () if terms is None else tuple(terms)
        refuse_measure(self.base, self.terms)
        self.full_count = period_of(self.terms)
        self.full_sum = self.upto(self.full_count)
        # No length is below 0, so they come to 0 only where each of them is 0.
        if self.full_sum == 0:
            raise NoMeasure("all lengths are 0")

    def at(self, k):
        """Tell the length of the number k."""
        return self.base + sum([term[0] for term in self.terms if term_on(term, k)])

    def upto(self, k):
        """Tell the sum of the lengths from 0 to k - 1, or minus that from k to -1."""
        return self.base * k + signs_upto(self.terms, k)

    def period(self):
        """Tell the least number from 1 on after which all lengths come again."""
        return self.full_count

    def seek(self, total):
        """Tell the only k with the total from upto(k) on and below upto(k + 1)."""
        rest = total % self.full_sum
        low = 0
        high = self.full_count
        # It stays so that rest is at least upto(low) and below upto(high).
        while high - low > 1:
            middle = (low + high) // 2
            if self.upto(middle) <= rest:
                low = middle
            else:
                high = middle
        return total // self.full_sum * self.full_count + low
