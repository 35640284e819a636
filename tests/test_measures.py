"""Points 2 and 20 to 23: feastwheel.measures."""

import inspect
import math
import unittest

from feastwheel import measures
from feastwheel.errors import NoMeasure
from feastwheel.measures import Measure, counter, term_on
from helper import FAR, FOURTH, GREGORIAN, LONG_TERMS, signs_in, term_is_on

SEVEN = (1, 7, 0, 19)
SMALL_TERMS = [(sign, a, b, n) for sign in (1, -1) for n in range(1, 6) for a in range(n + 1) for b in range(n)]


def summed(terms, k):
    """The words of point 21."""
    if k >= 0:
        return sum(signs_in(terms, number) for number in range(k))
    return -sum(signs_in(terms, number) for number in range(k, 0))


class Interface(unittest.TestCase):
    def test_names_and_arguments(self):
        told = {"term_on": ["term", "k"], "counter": ["terms"], "Measure": ["base", "terms"]}
        for name, arguments in told.items():
            with self.subTest(name):
                self.assertEqual(list(inspect.signature(getattr(measures, name)).parameters), arguments)
        self.assertIsNone(inspect.signature(Measure).parameters["terms"].default)
        for name, arguments in {"at": ["k"], "upto": ["k"], "period": [], "seek": ["total"]}.items():
            with self.subTest(name):
                self.assertEqual(list(inspect.signature(getattr(Measure(1), name)).parameters), arguments)


class TermOn(unittest.TestCase):
    def test_the_numbers_that_four_divides(self):
        for k in list(range(-20, 21)) + [4 * FAR, 4 * FAR + 1, -4 * FAR, -4 * FAR - 3]:
            self.assertIs(term_on(FOURTH, k), k % 4 == 0)

    def test_seven_of_any_nineteen_running(self):
        for first in list(range(-40, 41)) + [FAR, -FAR]:
            self.assertEqual(sum(term_on(SEVEN, k) for k in range(first, first + 19)), 7)

    def test_none_and_all(self):
        for n in (1, 2, 19, 1000):
            for b in sorted({0, n // 2, n - 1}):
                for k in (-FAR, -n, -1, 0, 1, 5, n, FAR):
                    with self.subTest(n=n, b=b, k=k):
                        self.assertIs(term_on((1, 0, b, n), k), False)
                        self.assertIs(term_on((-1, n, b, n), k), True)

    def test_by_the_words_of_the_point(self):
        for term in SMALL_TERMS:
            for k in list(range(-12, 13)) + [FAR, -FAR]:
                with self.subTest(term=term, k=k):
                    self.assertIs(term_on(term, k), term_is_on(term, k))


class Counter(unittest.TestCase):
    def test_single_terms_against_the_sum(self):
        for term in SMALL_TERMS:
            told = counter([term])
            for k in range(-13, 14):
                with self.subTest(term=term, k=k):
                    self.assertEqual(told(k), summed([term], k))

    def test_several_terms_against_the_sum(self):
        for terms in (GREGORIAN, [FOURTH, FOURTH, (-1, 2, 0, 5)], LONG_TERMS, SMALL_TERMS[::9]):
            told = counter(terms)
            for k in (-1300, -401, -7, -1, 0, 1, 2, 19, 400, 401, 1234):
                with self.subTest(terms=terms, k=k):
                    self.assertEqual(told(k), summed(terms, k))

    def test_of_no_terms(self):
        for k in (-FAR, -1, 0, 1, FAR):
            self.assertEqual(counter([])(k), 0)

    def test_nought(self):
        for term in SMALL_TERMS:
            self.assertEqual(counter([term])(0), 0)

    def test_far_off(self):
        told = counter(GREGORIAN)
        self.assertEqual(told(400 * FAR), 97 * FAR)
        self.assertEqual(told(-400 * FAR), -97 * FAR)
        for first in (400 * FAR, -400 * FAR, FAR + 3, -FAR + 3):
            for many in (1, 5, 150):
                signs = sum(signs_in(GREGORIAN, k) for k in range(first, first + many))
                self.assertEqual(told(first + many) - told(first), signs)

    def test_a_thousand_terms(self):
        self.assertEqual(counter([FOURTH] * 1000)(9), 3000)

    def test_the_list_may_change_behind_the_call(self):
        terms = [FOURTH]
        told = counter(terms)
        terms.append(SEVEN)
        terms[0] = (-1, 1, 0, 1)
        self.assertEqual(told(9), 3)
        self.assertEqual(terms, [(-1, 1, 0, 1), SEVEN])


def length(base, terms, k):
    return base + signs_in(terms, k)


def measured(base, terms, k):
    if k >= 0:
        return sum(length(base, terms, number) for number in range(k))
    return -sum(length(base, terms, number) for number in range(k, 0))


MEASURES = [
    (29, [(1, 1, 0, 2)]),
    (365, GREGORIAN),
    (12, [SEVEN]),
    (354, None),
    (7, []),
    (1, None),
    (0, [(1, 1, 0, 5)]),
    (0, [(1, 1, 2, 5), (1, 2, 0, 7)]),
    (1, [(-1, 2, 0, 3)]),
    (2, [(-1, 4, 0, 5), (-1, 5, 1, 6)]),
    (3, [(-1, 1, 0, 1), (-1, 2, 1, 3), (1, 1, 0, 7), (-1, 1, 0, 2), (1, 0, 0, 3), (1, 3, 3, 4)]),
]


class Lengths(unittest.TestCase):
    def test_the_case_of_the_document(self):
        measure = Measure(29, [(1, 1, 0, 2)])
        self.assertEqual([measure.at(k) for k in range(4)], [29, 30, 29, 30])
        self.assertEqual(measure.upto(2), 59)
        self.assertEqual(measure.upto(-1), -30)
        self.assertEqual(measure.seek(58), 1)
        self.assertEqual(measure.seek(-1), -1)

    def test_at_and_upto_against_the_sum(self):
        for base, terms in MEASURES:
            measure = Measure(base, terms)
            for k in range(-45, 46):
                with self.subTest(base=base, terms=terms, k=k):
                    self.assertEqual(measure.at(k), length(base, terms, k))
                    self.assertEqual(measure.upto(k), measured(base, terms, k))

    def test_seek_against_walking(self):
        for base, terms in MEASURES:
            measure = Measure(base, terms)
            for k in range(-30, 31):
                first, end = measured(base, terms, k), measured(base, terms, k + 1)
                for total in range(first, end):
                    with self.subTest(base=base, terms=terms, total=total):
                        self.assertEqual(measure.seek(total), k)

    def test_far_off(self):
        for base, terms in MEASURES + [(3, LONG_TERMS), (20000, LONG_TERMS), (0, [(1, 1, 0, 1000)]),
                                       (1, [(-1, 999, 0, 1000)])]:
            measure = Measure(base, terms)
            for total in (FAR, FAR + 1, -FAR, -FAR - 1, 10 ** 18, -(10 ** 18), 999, -999, 0):
                with self.subTest(base=base, terms=terms, total=total):
                    k = measure.seek(total)
                    self.assertLessEqual(measure.upto(k), total)
                    self.assertLess(total, measure.upto(k + 1))
                    self.assertEqual(measure.upto(k + 1) - measure.upto(k), measure.at(k))
                    self.assertEqual(measure.at(k), length(base, terms, k))

    def test_lengths_of_nought_among_them(self):
        measure = Measure(0, [(1, 1, 3, 4)])
        self.assertEqual([measure.at(k) for k in range(-1, 6)], [0, 1, 0, 0, 0, 1, 0])
        self.assertEqual([measure.upto(k) for k in range(-5, 6)], [-1, -1, 0, 0, 0, 0, 1, 1, 1, 1, 2])
        self.assertEqual([measure.seek(total) for total in (-2, -1, 0, 1, 2)], [-8, -4, 0, 4, 8])

    def test_the_period(self):
        self.assertEqual(Measure(5).period(), 1)
        self.assertEqual(Measure(5, []).period(), 1)
        self.assertEqual(Measure(365, GREGORIAN).period(), 400)
        self.assertEqual(Measure(5, [(1, 1, 0, 4), (1, 1, 0, 6)]).period(), 12)
        self.assertEqual(Measure(5, [(1, 0, 0, 4), (1, 9, 0, 9)]).period(), 36)
        period = Measure(3, LONG_TERMS).period()
        self.assertEqual(period, math.lcm(*[term[3] for term in LONG_TERMS]))
        self.assertEqual(len(str(period)), 18)

    def test_what_was_handed_in_stays_and_may_change_behind_the_call(self):
        terms = [FOURTH]
        measure = Measure(365, terms)
        self.assertEqual(terms, [FOURTH])
        terms.append(SEVEN)
        terms[0] = (1, 1, 0, 1)
        self.assertEqual([measure.at(k) for k in range(4)], [366, 365, 365, 365])
        self.assertEqual(measure.upto(4), 1461)
        self.assertEqual(measure.period(), 4)
        self.assertEqual(measure.seek(1461), 4)


class Refused(unittest.TestCase):
    def assert_refused(self, *given):
        with self.subTest(given=given):
            with self.assertRaises(NoMeasure):
                Measure(*given)

    def test_the_base(self):
        for base in (-1, -FAR, 20001, FAR):
            self.assert_refused(base)
            self.assert_refused(base, [])
            self.assert_refused(base, [FOURTH])
        self.assertEqual(Measure(20000).at(5), 20000)
        self.assertEqual(Measure(0, [(1, 1, 0, 1)]).at(5), 1)

    def test_the_sign(self):
        for sign in (0, 2, -2, FAR, -FAR):
            self.assert_refused(9, [(sign, 1, 0, 4)])

    def test_n(self):
        for n in (0, -1, -4, 1001, FAR, -FAR):
            self.assert_refused(9, [(1, 0, 0, n)])
        for n in (1, 1000):
            self.assertEqual(Measure(9, [(1, 0, 0, n)]).period(), n)

    def test_a(self):
        for a in (-1, 5, -FAR, FAR):
            self.assert_refused(9, [(1, a, 0, 4)])
        for a in (0, 4):
            self.assertEqual(Measure(9, [(1, a, 0, 4)]).upto(4), 36 + a)

    def test_b(self):
        for b in (-1, 4, 5, -FAR, FAR):
            self.assert_refused(9, [(1, 1, b, 4)])
        for b in (0, 3):
            self.assertEqual(Measure(9, [(1, 1, b, 4)]).upto(4), 37)

    def test_a_tuple_that_is_no_term_behind_terms(self):
        self.assert_refused(9, [FOURTH, SEVEN, (1, 1, 1, 1)])

    def test_more_than_six_terms(self):
        self.assertEqual(Measure(9, [FOURTH] * 6).at(0), 15)
        self.assert_refused(9, [FOURTH] * 7)
        self.assert_refused(9, [FOURTH] * 1000)

    def test_the_base_less_the_terms_with_a_minus(self):
        never_together = [(-1, 1, 0, 2), (-1, 1, 1, 2)]
        self.assert_refused(1, never_together)
        self.assert_refused(0, [(-1, 0, 0, 1)])
        self.assert_refused(0, [FOURTH, (-1, 0, 0, 1)])
        self.assertEqual(Measure(2, never_together).upto(2), 2)
        self.assertEqual(Measure(1, [(-1, 1, 0, 2)]).upto(2), 1)
        self.assertEqual(Measure(6, [(-1, 1, 0, 2)] * 6).upto(2), 6)

    def test_where_all_lengths_are_nought(self):
        self.assert_refused(0)
        self.assert_refused(0, [])
        self.assert_refused(0, [(1, 0, 0, 4)])
        self.assert_refused(1, [(-1, 4, 0, 4)])
        self.assert_refused(2, [(-1, 4, 0, 4), (1, 0, 0, 7), (-1, 1, 0, 1)])
        self.assertEqual(Measure(1, [(-1, 3, 0, 4)]).upto(4), 1)
        self.assertEqual(Measure(0, [(1, 1, 0, 1000)]).upto(1000), 1)
