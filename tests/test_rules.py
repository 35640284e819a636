"""Points 1 to 3 and 37 to 41: feastwheel.rules."""

import inspect
import math
import unittest

from feastwheel import rules
from feastwheel.calendars import Sun
from feastwheel.changes import Change
from feastwheel.errors import NoCycle, NoNumber
from feastwheel.rules import (
    All, Both, But, Dated, Each, Either, Every, Kth, Later, Near, No, Not, Rule, Till, Unlike, Until, Upon,
)
from helper import BELOW_ONE, FAR, FOURTH, GREGORIAN, LONGEST, TWELVE, RoundCase, holds
from trees import CALENDARS, PAIRS, built, count_of, parts_of, shown, size_of, some_trees, walked
from words import says_dated

OLD = Sun(0, TWELVE, 2, [FOURTH])
NEW = Sun(2, TWELVE, 2, GREGORIAN)
# Three days of seven and two days of ten, told by rules.
SOME = ("or", ("each", 7, 0), ("or", ("each", 7, 3), ("each", 7, -3)))
TENS = ("or", ("each", 10, 3), ("each", 10, 14))


class RuleCase(RoundCase):
    def assert_rule(self, rule, turn):
        """The rule has just this round, and holds where it does, near day 0 and far off."""
        self.assertIsInstance(rule, Rule)
        self.assert_round(rule.turn())
        self.assertEqual(rule.turn(), turn)
        self.assertEqual(rule.size(), turn[0])
        for first in (-25, FAR, -FAR):
            for day in range(first, first + 50):
                self.assertIs(rule.on(day), holds(turn, day))

    def check(self, tree):
        with self.subTest(tree=tree):
            self.assert_rule(built(tree), walked(tree))


class Interface(unittest.TestCase):
    def test_names_and_arguments(self):
        told = {
            "Each": ["size", "rest"],
            "Dated": ["name", "calendar", "month", "day", "step", "rest"],
            "Later": ["number", "R"], "Kth": ["number", "R", "S"], "Every": ["number", "R", "day"],
            "All": [], "No": [], "Not": ["R"],
        }
        for name in ("Both", "Either", "But", "Unlike", "Upon", "Until", "Near", "Till"):
            told[name] = ["R", "S"]
        for name, arguments in told.items():
            with self.subTest(name):
                kind = getattr(rules, name)
                self.assertTrue(issubclass(kind, Rule))
                self.assertEqual(list(inspect.signature(kind).parameters), arguments)
        defaults = inspect.signature(Dated).parameters
        self.assertEqual([defaults[name].default for name in ("month", "day", "step", "rest")], [None, None, 1, 0])

    def test_methods_of_the_base(self):
        told = {"on": ["day"], "size": [], "turn": [], "shown": [], "parts": []}
        for name, arguments in told.items():
            self.assertEqual(list(inspect.signature(getattr(Rule(), name)).parameters), arguments)

    def test_the_base_by_itself_answers(self):
        rule = Rule()
        self.assertEqual([rule.on(day) for day in (-FAR, -1, 0, 1, FAR)], [False] * 5)
        self.assertEqual((rule.size(), rule.turn(), rule.shown()), (1, (1, 0), "none"))
        self.assertEqual(rule.parts(), [rule])

    def test_no_kind_is_another_one(self):
        for kind in list(PAIRS.values()) + [All, No, Each, Dated, Not, Later, Kth, Every]:
            self.assertFalse(issubclass(kind, tuple(other for other in PAIRS.values() if other is not kind)))


class DaysOfEachKind(RuleCase):
    def test_all_and_no(self):
        self.assert_rule(All(), (1, 1))
        self.assert_rule(No(), (1, 0))

    def test_each(self):
        for size in (1, 2, 7, 12):
            for rest in (0, 1, -1, 5, size, size - 1, -size, 100, -100):
                self.check(("each", size, rest))
        for rest in (FAR, -FAR, FAR + 1):
            self.assert_rule(Each(7, rest), (7, 1 << rest % 7))
        self.assertEqual(Each(LONGEST, -1).turn(), (LONGEST, 1 << (LONGEST - 1)))

    def test_dated(self):
        for name in CALENDARS:
            for month in (None, 1, 2, 3, 4, FAR):
                for day in (None, 1, 3, -1, -3, 9, FAR, -FAR):
                    self.check(("date", name, month, day, 1, 0))
            for step, rest in ((1, 5), (2, 0), (2, 1), (3, -1), (4, 6), (4, FAR), (3, -FAR)):
                self.check(("date", name, 1, -1, step, rest))

    def test_dated_with_what_may_be_left_out(self):
        calendar = CALENDARS["sun"]
        for given, wanted in (((), (None, None, 1, 0)), ((3,), (3, None, 1, 0)), ((3, -1), (3, -1, 1, 0)),
                              ((None, 2), (None, 2, 1, 0)), ((1, 1, 4), (1, 1, 4, 0)), ((1, 1, 4, 3), (1, 1, 4, 3))):
            rule = Dated("sun", calendar, *given)
            for day in range(-100, 100):
                self.assertIs(rule.on(day), says_dated(calendar, day, wanted))
        rule = Dated("sun", calendar, rest=3, step=2, day=1)
        self.assertEqual([day for day in range(100) if rule.on(day)],
                         [day for day in range(100) if says_dated(calendar, day, (None, 1, 2, 3))])

    def test_not(self):
        for part in (("all",), ("none",), SOME, ("each", 1, 0)):
            self.check(("not", part))

    def test_made_of_two(self):
        parts = [SOME, TENS, ("each", 7, 2), ("each", 2, 1), ("all",), ("none",), ("date", "sun", 1, 1, 1, 0)]
        for word in PAIRS:
            for one in parts:
                for other in parts:
                    if size_of((word, one, other)) <= 100:
                        self.check((word, one, other))

    def test_later(self):
        for number in (0, 1, -1, 6, 7, 8, -20, FAR, -FAR, FAR + 1):
            self.check(("later", number, SOME))
        self.check(("later", 3, ("none",)))
        self.assertTrue(Later(2, Each(7, 0)).on(2))
        self.assertTrue(Later(-2, Each(7, 0)).on(-2))

    def test_kth(self):
        for number in (1, 2, 3, 4, -1, -2, -3, FAR, -FAR):
            self.check(("of", number, SOME, TENS))
            self.check(("of", number, TENS, SOME))
            self.check(("of", number, ("all",), SOME))
            self.check(("of", number, SOME, ("none",)))

    def test_every(self):
        for number in (1, 2, 3, 5):
            for day in (0, 1, -1, 3, 20, -20, FAR, -FAR, FAR + 1):
                self.check(("every", number, SOME, day))
        self.check(("every", 3, ("none",), 4))
        self.check(("every", 3, ("all",), 4))

    def test_rules_within_rules(self):
        for tree in some_trees(11, 250, 4, 200):
            self.check(tree)

    def test_the_second_and_the_first_are_not_changed_for_one_another(self):
        self.assertEqual(But(Each(4, 1), Each(2, 1)).turn(), (4, 0))
        self.assertEqual(But(Each(2, 1), Each(4, 1)).turn(), (4, 8))
        self.assertEqual(Till(Each(4, 1), Each(4, 3)).turn(), (4, 6))


class Refusals(RuleCase):
    def assert_no_number(self, kind, *given):
        with self.subTest(kind=kind.__name__, given=given):
            with self.assertRaises(NoNumber):
                kind(*given)

    def test_each(self):
        for size in BELOW_ONE:
            self.assert_no_number(Each, size, 0)
        for size in (LONGEST + 1, FAR):
            self.assert_too_long(size, Each, size, -7)

    def test_dated(self):
        change = Change(OLD, NEW, 578103)
        for calendar in (NEW, change):
            for month in BELOW_ONE:
                self.assert_no_number(Dated, "sun", calendar, month)
            self.assert_no_number(Dated, "sun", calendar, None, 0)
            for step in BELOW_ONE:
                self.assert_no_number(Dated, "sun", calendar, None, None, step)
        for given in ((), (1, 1), (None, None, FAR)):
            with self.assertRaises(NoCycle):
                Dated("sun", change, *given)
        self.assertEqual(Dated("sun", OLD, 1, 1, 4 * 102, 0).size(), 1461 * 102)
        self.assert_too_long(1461 * 103, Dated, "sun", OLD, 1, 1, 4 * 103, 0)
        self.assert_too_long(146097 * 3, Dated, "sun", NEW, 1, 1, 3)

    def test_made_of_two(self):
        for kind in list(PAIRS.values()) + [lambda R, S: Kth(1, R, S), lambda R, S: Kth(-FAR, R, S)]:
            self.assert_too_long(LONGEST + 2, kind, Each(2, 0), Each(75001, 0))
            self.assert_too_long(149999 * LONGEST, kind, Each(149999, 0), Each(LONGEST, 1))
            self.assert_too_long(149999 * 7, kind, Each(7, 0), Each(149999, 0))
            self.assertEqual(kind(Each(75000, 0), Each(50000, 1)).size(), LONGEST)

    def test_kth_with_nought_ahead_of_too_long(self):
        self.assert_no_number(Kth, 0, Each(2, 0), Each(3, 0))
        self.assert_no_number(Kth, 0, Each(149999, 0), Each(LONGEST, 1))

    def test_every(self):
        for number in BELOW_ONE:
            self.assert_no_number(Every, number, Each(7, 0), 0)
            self.assert_no_number(Every, number, Each(LONGEST, 0), 0)
        self.assertEqual(Every(2, Each(75000, 0), FAR).size(), LONGEST)
        self.assert_too_long(LONGEST + 2, Every, 2, Each(75001, 0), 0)
        self.assert_too_long(7 * FAR, Every, FAR, Each(7, 0), 3)
        self.assert_too_long(LONGEST + 1, Every, LONGEST + 1, No(), 3)

    def test_a_size_goes_by_the_words_alone(self):
        # The days of each of these come again sooner, or are none.
        wide = Either(Each(75001, 0), Not(Each(75001, 0)))
        self.assertEqual(wide.size(), 75001)
        self.assert_too_long(150002, Both, wide, Each(2, 0))
        self.assert_too_long(150002, Every, 2, Both(wide, No()), 0)


class Sizes(unittest.TestCase):
    def test_each_kind(self):
        four, six = Each(4, 1), Each(6, 2)
        self.assertEqual([All().size(), No().size(), four.size(), Each(1, 5).size()], [1, 1, 4, 1])
        self.assertEqual(Dated("sun", OLD, 2, 30).size(), 1461)
        self.assertEqual(Dated("sun", OLD, 2, 29, 3).size(), 1461 * 3)
        self.assertEqual(Dated("sun", OLD, 2, 29, 2).size(), 1461)
        self.assertEqual([Not(four).size(), Later(-3, six).size(), Later(FAR, six).size()], [4, 6, 6])
        for kind in PAIRS.values():
            self.assertEqual(kind(four, six).size(), 12)
            self.assertEqual(kind(No(), six).size(), 6)
            self.assertEqual(kind(six, All()).size(), 6)
        for number in (1, -1, FAR):
            self.assertEqual(Kth(number, four, six).size(), 12)
        for number in (1, 2, 5):
            self.assertEqual(Every(number, six, 3).size(), 6 * number)
            self.assertEqual(Every(number, No(), 3).size(), number)

    def test_trees(self):
        for tree in some_trees(12, 100, 4):
            self.assertEqual(built(tree).size(), size_of(tree))
            self.assertEqual(built(tree).turn()[0], size_of(tree))


class Parts(unittest.TestCase):
    def assert_parts(self, rule, asked):
        told = rule.parts()
        self.assertIs(type(told), list)
        self.assertEqual(len(told), len(asked))
        for part, other in zip(told, asked):
            self.assertIs(part, other)

    def test_of_rules_that_are_not_made_of_rules(self):
        for rule in (All(), No(), Each(3, 1), Dated("sun", OLD)):
            self.assert_parts(rule, [rule])

    def test_of_rules_made_of_rules(self):
        one, other = Each(3, 1), Each(4, 1)
        for kind in PAIRS.values():
            rule = kind(one, other)
            self.assert_parts(rule, [rule, one, other])
        for rule in (Not(one), Later(4, one), Every(2, one, 0)):
            self.assert_parts(rule, [rule, one])
        rule = Kth(2, one, other)
        self.assert_parts(rule, [rule, one, other])

    def test_in_their_order(self):
        a, b, c = Each(2, 0), Each(3, 0), Each(4, 0)
        inner = Upon(a, b)
        flipped = Not(inner)
        moved = Later(3, c)
        rule = Kth(1, flipped, moved)
        self.assert_parts(rule, [rule, flipped, inner, a, b, moved, c])

    def test_a_rule_that_stands_twice_is_counted_twice(self):
        one = Each(3, 1)
        twice = Both(one, one)
        rule = Either(twice, twice)
        self.assert_parts(rule, [rule, twice, one, one, twice, one, one])

    def test_a_new_list_each_time(self):
        rule = Both(Each(2, 0), Each(3, 0))
        told = rule.parts()
        told.append(All())
        told[0] = No()
        again = rule.parts()
        self.assertEqual(len(again), 3)
        self.assertIs(again[0], rule)

    def test_as_many_as_the_words_tell(self):
        for tree in some_trees(13, 100, 5):
            self.assertEqual(len(built(tree).parts()), count_of(tree))


class Great(RuleCase):
    def test_deep_rules(self):
        rule = Each(7, 0)
        for step in range(40):
            rule = Not(rule) if step % 2 else Later(1, rule)
        self.assertEqual(len(rule.parts()), 41)
        self.assert_rule(rule, (7, 1 << 20 % 7))
        self.assertTrue(rule.shown().startswith("(not (1 later (not (1 later "))
        self.assertTrue(rule.shown().endswith("(1 later each 7 from 0" + ")" * 40))

    def test_deep_rules_made_of_two(self):
        rule = Each(5, 0)
        for step in range(40):
            rule = Either(rule, Each(5, 1)) if step % 2 else Upon(Each(1, 0), rule)
        self.assertEqual(len(rule.parts()), 81)
        self.assert_rule(rule, (5, 3))

    def test_a_thousand_parts(self):
        row = [Each(150, rest) for rest in range(0, 1000, 2)]
        while len(row) > 1:
            row = [Either(one, other) for one, other in zip(row[::2], row[1::2])] + row[len(row) // 2 * 2:]
        self.assertEqual(len(row[0].parts()), 999)
        self.assert_rule(row[0], (150, int("01" * 75, 2)))

    def test_many_parts_of_the_greatest_size(self):
        row = [Each(LONGEST, 300 * rest) for rest in range(500)]
        while len(row) > 1:
            row = [Unlike(one, other) for one, other in zip(row[::2], row[1::2])] + row[len(row) // 2 * 2:]
        self.assertEqual(row[0].turn(), (LONGEST, sum(1 << 300 * rest for rest in range(500))))

    def test_wheels_of_the_greatest_size(self):
        fives = Either(Each(LONGEST, 7), Each(5, 2))
        tens = Each(10, 6)
        for rule, bits in ((Upon(fives, tens), 7), (Until(fives, tens), 2), (Near(fives, tens), 7),
                           (Kth(2, fives, tens), 2), (Kth(-2, fives, tens), 7)):
            self.assertEqual(rule.turn(), (LONGEST, sum(1 << day for day in range(bits, LONGEST, 10))))
        self.assertEqual(FAR % LONGEST, 100000)
        self.assertEqual(Every(3, Each(50000, 9), FAR).turn(), (LONGEST, 1 << 100009))


class Texts(unittest.TestCase):
    def test_each_kind(self):
        one, other = Each(3, 1), No()
        told = {
            "all": All(), "none": No(), "each 3 from 1": one, "date sun * *": Dated("sun", OLD),
            "(not none)": Not(other), "(each 3 from 1 and none)": Both(one, other),
            "(each 3 from 1 or none)": Either(one, other), "(each 3 from 1 but none)": But(one, other),
            "(each 3 from 1 unlike none)": Unlike(one, other), "(5 later each 3 from 1)": Later(5, one),
            "(each 3 from 1 upon none)": Upon(one, other), "(each 3 from 1 until none)": Until(one, other),
            "(each 3 from 1 near none)": Near(one, other), "(each 3 from 1 till none)": Till(one, other),
            "(2 of each 3 from 1 from none)": Kth(2, one, other),
            "(every 2 of each 3 from 1 from 7)": Every(2, one, 7),
        }
        for text, rule in told.items():
            with self.subTest(text):
                self.assertIs(type(rule.shown()), str)
                self.assertEqual(rule.shown(), text)

    def test_the_rest_of_each_is_a_remainder(self):
        for size, rest, text in ((7, -1, "each 7 from 6"), (7, 7, "each 7 from 0"), (7, 100, "each 7 from 2"),
                                 (1, 5, "each 1 from 0"), (LONGEST, -FAR, f"each 150000 from {-FAR % LONGEST}")):
            self.assertEqual(Each(size, rest).shown(), text)

    def test_dates(self):
        for given, text in (
            ((), "date sun * *"), ((2,), "date sun 2 *"), ((2, -1), "date sun 2 -1"), ((None, 30), "date sun * 30"),
            ((FAR, -FAR), f"date sun {FAR} {-FAR}"), ((2, None, 4, -3), "date sun 2 * each 4 from 1"),
            ((2, 1, 1, 5), "date sun 2 1"), ((2, 1, 2, 0), "date sun 2 1 each 2 from 0"),
            ((None, None, 3, 3 * FAR + 2), "date sun * * each 3 from 2"),
        ):
            self.assertEqual(Dated("sun", OLD, *given).shown(), text)
        self.assertEqual(Dated("all", OLD, 1, 1).shown(), "date all 1 1")

    def test_numbers_as_they_were_handed_in(self):
        one = Each(7, 0)
        self.assertEqual(Later(-30, one).shown(), "(-30 later each 7 from 0)")
        self.assertEqual(Later(FAR, one).shown(), f"({FAR} later each 7 from 0)")
        self.assertEqual(Later(0, one).shown(), "(0 later each 7 from 0)")
        self.assertEqual(Kth(-FAR, one, one).shown(), f"({-FAR} of each 7 from 0 from each 7 from 0)")
        self.assertEqual(Every(3, one, -FAR).shown(), f"(every 3 of each 7 from 0 from {-FAR})")
        self.assertEqual(Every(1, one, 100).shown(), "(every 1 of each 7 from 0 from 100)")

    def test_rules_within_rules(self):
        for tree in some_trees(14, 200, 5):
            self.assertEqual(built(tree).shown(), shown(tree))
        rule = Both(Not(Upon(All(), No())), Later(2, Either(No(), All())))
        self.assertEqual(rule.shown(), "((not (all upon none)) and (2 later (none or all)))")


class NothingIsChanged(RuleCase):
    def test_the_parts_stay_as_they_were(self):
        for tree in some_trees(15, 60, 4):
            parts = [built(part) for part in parts_of(tree)]
            before = [(part.turn(), part.shown(), part.parts()) for part in parts]
            if tree[0] in PAIRS:
                PAIRS[tree[0]](*parts)
            self.assertEqual([(part.turn(), part.shown(), part.parts()) for part in parts], before)

    def test_what_is_done_to_the_lists_of_a_calendar_changes_nothing(self):
        lengths, terms = [3, 4], [(1, 1, 0, 2)]
        calendar = Sun(0, lengths, 1, terms)
        rule = Dated("sun", calendar, 1, -1)
        turn = rule.turn()
        lengths[0] = 9
        terms.append((1, 1, 0, 3))
        calendar.lengths(0)[0] = 5
        self.assertEqual(rule.turn(), turn)
        self.assertEqual(Dated("sun", calendar, 1, -1).turn(), turn)

    def test_a_rule_says_the_same_again(self):
        rule = Near(built(SOME), built(TENS))
        turn, text = rule.turn(), rule.shown()
        rule.on(FAR)
        rule.parts().clear()
        self.assertEqual((rule.turn(), rule.shown(), len(rule.parts())), (turn, text, 9))
        self.assertEqual(turn[0], math.lcm(7, 10))
