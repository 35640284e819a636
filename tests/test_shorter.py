"""Points 2 and 42: feastwheel.shorter."""

import inspect
import re
import unittest

from feastwheel.calendars import Sun
from feastwheel.rounds import least
from feastwheel.rules import (
    All, Both, But, Dated, Each, Either, Every, Kth, Later, Near, No, Not, Rule, Till, Unlike, Until, Upon,
)
from feastwheel.shorter import shorter
from helper import FAR, GREGORIAN, LONGEST, TWELVE
from trees import built, some_trees

FIFTY = 10 ** 50 - 1
NEW = Sun(2, TWELVE, 2, GREGORIAN)


def balanced(kind, row):
    """One rule of all rules of a row, as flat as it goes."""
    while len(row) > 1:
        row = [kind(one, other) for one, other in zip(row[::2], row[1::2])] + row[len(row) // 2 * 2:]
    return row[0]


class ShorterCase(unittest.TestCase):
    def check(self, rule):
        """Every promise of the point that can be seen of any rule."""
        told = shorter(rule)
        with self.subTest(rule=rule.shown()[:200], told=told.shown()[:200]):
            self.assertIsInstance(told, Rule)
            turn = least(rule.turn())
            self.assertEqual(least(told.turn()), turn)
            for part in rule.parts():
                if least(part.turn()) == turn:
                    self.assertLessEqual(len(told.parts()), len(part.parts()))
            if turn in ((1, 0), (1, 1)) or turn[1] & (turn[1] - 1) == 0:
                self.assertEqual(len(told.parts()), 1)
            self.assertEqual(rule.size() % told.size(), 0)
            names = re.findall("date ([a-z]+)", rule.shown())
            for name in re.findall("date ([a-z]+)", told.shown()):
                self.assertIn(name, names)
            self.assertLessEqual(max([len(word) for word in re.findall("[0-9]+", told.shown())], default=0), 60)
        return told

    def assert_told(self, text, rule):
        self.assertEqual(self.check(rule).shown(), text)


class Shorter(ShorterCase):
    def test_names_and_arguments(self):
        self.assertEqual(list(inspect.signature(shorter).parameters), ["rule"])

    def test_rules_of_each_kind(self):
        for tree in some_trees(21, 600, 4) + some_trees(22, 100, 6, 3000):
            self.check(built(tree))

    def test_on_all_days(self):
        week = Each(7, 3)
        for rule in (All(), Each(1, 5), Not(No()), Either(week, Not(week)), Till(week, No()), Upon(All(), All()),
                     Dated("sun", NEW), Every(1, All(), 5)):
            self.assert_told("all", rule)

    def test_on_no_days(self):
        week = Each(7, 3)
        for rule in (No(), Not(All()), Both(week, Each(7, 2)), But(week, week), Unlike(week, week), Kth(9, week, week),
                     Upon(week, No()), Dated("sun", NEW, 2, 30), Every(3, No(), 1)):
            self.assert_told("none", rule)

    def test_on_one_day_of_the_least_round(self):
        week = Each(7, 3)
        for rule in (week, Both(Each(14, 3), week), Either(Each(14, 3), Each(14, 10)), Later(4, week),
                     Every(2, week, 0), Until(week, All()), Not(Either(Each(2, 0), Each(4, 1))), Near(week, All())):
            turn = least(rule.turn())
            self.assert_told(f"each {turn[0]} from {turn[1].bit_length() - 1}", rule)
        self.assert_told("each 2 from 1", Not(Each(2, 0)))
        self.assert_told("each 150000 from 149999", Both(Each(LONGEST, -1), Each(2, 1)))
        self.assert_told("each 146097 from 2", Both(Dated("sun", NEW, 1, 1, 400), All()))

    def test_a_part_that_holds_on_the_same_days(self):
        march = Dated("sun", NEW, 3)
        for rule in (march, Both(march, All()), Either(No(), march), Not(Not(march)), But(march, No()),
                     Later(0, march), Later(3, Later(-3, march)), Unlike(march, No()), Upon(march, march),
                     Both(Either(march, Each(7, 1)), march), Every(1, march, 4), Kth(1, march, march)):
            self.assert_told("date sun 3 *", rule)

    def test_a_part_deep_within(self):
        inner = Either(Each(7, 1), Each(7, 3))
        self.assert_told("(each 7 from 1 or each 7 from 3)", Not(Both(Not(inner), Not(Later(7, inner)))))

    def test_the_shortest_one_of_several(self):
        two = Either(Each(7, 1), Each(7, 3))
        three = Either(two, Each(14, 1))
        for rule in (Both(two, three), Both(three, two), Either(Both(three, three), two)):
            self.assertEqual(len(self.check(rule).parts()), 3)

    def test_no_part_holds_on_the_same_days(self):
        rule = Either(Each(7, 1), Each(7, 3))
        self.assertLessEqual(len(self.check(rule).parts()), 3)
        self.check(Both(Not(rule), Later(FIFTY, rule)))

    def test_a_name_of_two_calendars(self):
        other = Sun(0, [10, 20])
        here, there = Dated("sun", NEW, 1), Dated("sun", other, 1)
        self.assertEqual(self.check(Not(Not(there))).turn(), there.turn())
        self.assertEqual(self.check(Not(Not(here))).turn(), here.turn())

    def test_great_numbers(self):
        part = Either(Each(7, 1), Each(7, 3))
        for number in (FIFTY, -FIFTY):
            rule = Both(Later(number, part), Every(2, Later(number, Later(number, part)), number))
            self.check(rule)
            self.check(Kth(number, part, part))
            self.check(Either(Kth(number, part, part), Later(number, part)))
            self.check(Dated("sun", NEW, None, number))
        for number in (FAR, -FAR):
            told = shorter(Later(number, Every(1, part, number)))
            self.assertEqual(least(told.turn()), least(Later(number, part).turn()))

    def test_deep_rules(self):
        rule = Either(Each(5, 0), Each(5, 1))
        for step in range(39):
            rule = Not(rule) if step % 2 else Later(1, rule)
        self.check(rule)
        for step in range(39):
            rule = Not(built(("or", ("each", 5, 0), ("each", 5, 1)))) if step == 0 else Not(rule)
        self.assertEqual(len(self.check(rule).parts()), 4)

    def test_a_thousand_parts(self):
        self.check(balanced(Either, [Each(150, rest) for rest in range(0, 1000, 2)]))
        self.check(balanced(Upon, [Each(6, rest) for rest in range(500)]))
        march = Dated("sun", NEW, 3)
        self.assert_told("date sun 3 *", balanced(Both, [march for number in range(500)]))

    def test_a_thousand_parts_of_the_greatest_size(self):
        self.check(balanced(Unlike, [Each(LONGEST, 301 * rest) for rest in range(500)]))

    def test_the_rule_stays_as_it_was(self):
        rule = Both(Dated("sun", NEW, 3), Not(No()))
        before = (rule.turn(), rule.shown(), rule.parts())
        shorter(rule)
        self.assertEqual((rule.turn(), rule.shown(), rule.parts()), before)
