"""Points 1 to 3 over the whole program: what holds for ever, whatever it is made of."""

import math
import unittest

from feastwheel import errors
from feastwheel.almanac import almanac, read_almanac
from feastwheel.asks import how_many, last_day, next_day, nth_day
from feastwheel.calendar_texts import read_calendar
from feastwheel.calendars import Moon, Sun
from feastwheel.changes import Change, moved
from feastwheel.dated import dated
from feastwheel.desk import Desk
from feastwheel.measures import Measure
from feastwheel.numbers import date_text, read_date, read_number
from feastwheel.papers import meeting, same, stands, within
from feastwheel.remains import ahead, common, met
from feastwheel.rounds import both, folded, round_by, stretched
from feastwheel.rule_texts import read_rule
from feastwheel.rules import Both, Dated, Each, Every, Kth, Later, Not, Upon
from feastwheel.shorter import shorter
from feastwheel.wheels import every, kth, upon
from helper import FAR, FOURTH, GREGORIAN, LONG_TERMS, TWELVE, holds
from trees import CALENDARS, built, shown, some_trees, walked

OLD = Sun(0, TWELVE, 2, [FOURTH])
NEW = Sun(2, TWELVE, 2, GREGORIAN)
CHANGE = Change(OLD, NEW, 578103)
LUNAR = Moon(12, Measure(29, [(1, 1, 0, 2)]), Measure(12, [(1, 7, 0, 19)]))
LONG_MOON = Moon(-9, Measure(29, LONG_TERMS), Measure(12, LONG_TERMS))
NEAR_DAYS = (0, 5, -17, 100)
# Of sixty figures, so that they can stand in texts.
FAR_DAYS = (10 ** 59 + 11, 7 - 10 ** 59)


def names(many):
    """So many names, no two alike."""
    letters = "abcdefghij"
    return [letters[place // 100] + letters[place // 10 % 10] + letters[place % 10] for place in range(many)]


def first_walked(says, day, size):
    return next((found for found in range(day, day + size) if says(found)), None)


class LongRows(unittest.TestCase):
    """Many rules at one desk, asked against the document's words, walked day by day."""

    @classmethod
    def setUpClass(cls):
        cls.desk = Desk()
        for name, calendar in CALENDARS.items():
            cls.desk.say(f"calendar {name} {calendar.shown()}")
        cls.trees = some_trees(41, 120, 4, 100)
        cls.names = names(len(cls.trees))
        cls.rounds = [walked(tree) for tree in cls.trees]
        for name, tree in zip(cls.names, cls.trees):
            cls.desk.say(f"rule {name} {shown(tree)}")

    def told(self):
        return zip(self.names, self.rounds)

    def test_on(self):
        for name, turn in self.told():
            for day in list(range(-9, 9)) + list(FAR_DAYS):
                self.assertEqual(self.desk.say(f"on {name} {day}"), "yes" if holds(turn, day) else "no")

    def test_next_and_last(self):
        for name, turn in self.told():
            for day in NEAR_DAYS + FAR_DAYS:
                found = first_walked(lambda d: holds(turn, d), day, turn[0])
                self.assertEqual(self.desk.say(f"next {name} {day}"), "never" if found is None else str(found))
                back = first_walked(lambda d: holds(turn, -d), -day, turn[0])
                self.assertEqual(self.desk.say(f"last {name} {day}"), "never" if back is None else str(-back))

    def test_the_so_many_th(self):
        for name, turn in self.told():
            for day in (5, FAR_DAYS[0]):
                forth = [d for d in range(day, day + 4 * turn[0]) if holds(turn, d)]
                back = [d for d in range(day, day - 4 * turn[0], -1) if holds(turn, d)]
                for number in (1, 2, 3, 4):
                    asked = str(forth[number - 1]) if forth else "never"
                    self.assertEqual(self.desk.say(f"nth {name} {day} {number}"), asked)
                    asked = str(back[number - 1]) if back else "never"
                    self.assertEqual(self.desk.say(f"nth {name} {day} -{number}"), asked)

    def test_how_many(self):
        for name, turn in self.told():
            for first, many in ((0, 60), (-31, 17), (FAR_DAYS[1], 150)):
                asked = sum(holds(turn, day) for day in range(first, first + many))
                self.assertEqual(self.desk.say(f"count {name} {first} {first + many}"), str(asked))
                self.assertEqual(self.desk.say(f"count {name} {first + many} {first}"), str(-asked))

    def test_two_rules_for_ever(self):
        kept = list(self.told())
        for (name, one), (other_name, other) in zip(kept, kept[1:] + kept[:1]):
            around = math.lcm(one[0], other[0])
            for day in (0, FAR_DAYS[1]):
                words = f"{name} {other_name} {day}"
                parted = first_walked(lambda d: holds(one, d) != holds(other, d), day, around)
                meet = first_walked(lambda d: holds(one, d) and holds(other, d), day, around)
                outside = first_walked(lambda d: holds(one, d) and not holds(other, d), day, around)
                answers = [self.desk.say(f"{word} {words}") for word in ("same", "meet", "within")]
                g = math.gcd(one[0], other[0])
                asked = [f"parted {parted}", f"never {g}" if meet is None else f"meet {meet}",
                         f"within {g}" if outside is None else f"outside {outside}"]
                self.assertEqual(answers[1:], asked[1:])
                if parted is None:
                    self.assertEqual(answers[0], "same " + self.desk.say(f"size {name}"))
                else:
                    self.assertEqual(answers[0], asked[0])

    def test_shown_and_put_shorter_again_and_again(self):
        for name, tree in zip(self.names, self.trees):
            text = self.desk.say(f"show {name}")
            self.assertEqual(text, shown(tree))
            self.desk.say(f"rule again {text}")
            self.assertTrue(self.desk.say(f"same {name} again 0").startswith("same "))
            self.desk.say("rule less " + self.desk.say(f"shorter {name}"))
            self.assertTrue(self.desk.say(f"same {name} less 0").startswith("same "))

    def test_almanacs(self):
        for name, calendar in CALENDARS.items():
            rows = self.desk.say(f"almanac {name} -60 200 " + " ".join(self.names)).split("\n")
            told = read_almanac(rows)
            for day, row in zip(range(-60, 140), told):
                on_it = [word for word, turn in self.told() if holds(turn, day)]
                self.assertEqual(row, (day, calendar.date_of(day), on_it))


class OneToOne(unittest.TestCase):
    def test_days_and_dates_are_one_to_one_and_in_order(self):
        # Ten changes within one another; each of the last nine leaves out a date.
        many = CHANGE
        for step in range(1, 10):
            many = Change(many, Sun(2 - step, TWELVE, 2, GREGORIAN), 578103 + 200 * step)
        for calendar in (OLD, NEW, CHANGE, LUNAR, LONG_MOON, many):
            for first in (-400, 578000, 579500, 10 ** 59, FAR, -FAR):
                dates = [calendar.date_of(day) for day in range(first, first + 700)]
                self.assertTrue(all(date < later for date, later in zip(dates, dates[1:])))
                self.assertEqual([calendar.day_of(date) for date in dates], list(range(first, first + 700)))

    def test_dates_as_texts(self):
        for calendar in (OLD, NEW, CHANGE, LUNAR, LONG_MOON):
            for first in (-400, 578000, 10 ** 59, -10 ** 59):
                for day in range(first, first + 400):
                    date = calendar.date_of(day)
                    self.assertEqual(read_date(date_text(date)), date)


class HundredFigures(unittest.TestCase):
    """Numbers that can't be walked, by the functions."""

    def test_rules(self):
        day = FAR - 3
        rule = Upon(Later(-FAR, Each(7, 0)), Every(2, Each(10, FAR), -FAR))
        near_rule = Upon(Later(-FAR % 7, Each(7, 0)), Every(2, Each(10, FAR % 10), -FAR % 20))
        self.assertEqual(rule.turn(), near_rule.turn())
        for shift in range(200):
            self.assertEqual(rule.on(day + shift), near_rule.on((day + shift) % 140))
        self.assertEqual(next_day(rule.turn(), day) - day, next_day(rule.turn(), day % 140) - day % 140)
        self.assertEqual(how_many(rule.turn(), -140 * FAR, 140 * FAR), 2 * FAR * how_many(rule.turn(), 0, 140))
        self.assertEqual(nth_day(rule.turn(), 0, FAR * how_many(rule.turn(), 0, 140) + 1),
                         nth_day(rule.turn(), 0, 1) + 140 * FAR)

    def test_papers(self):
        one, other = Each(149999, 5).turn(), Each(150000, 77).turn()
        for day in (FAR, -FAR):
            for paper in (same(one, other, day), meeting(one, other, day)):
                self.assertTrue(day <= paper[1])
                self.assertTrue(stands(paper, one, other))
        self.assertEqual(within(one, one, FAR)[0], "within")

    def test_dates(self):
        for calendar in (NEW, LUNAR, LONG_MOON, CHANGE):
            for day in (FAR, -FAR):
                date = calendar.date_of(day)
                self.assertEqual(calendar.day_of(date), day)
                self.assertEqual(moved(date, calendar, OLD), OLD.date_of(day))

    def test_an_almanac(self):
        rows = almanac(LUNAR, [("x", Each(2, 0))], FAR, 3)
        self.assertEqual([row.split(" ")[0] for row in rows], [str(FAR), str(FAR + 1), str(FAR + 2)])
        self.assertTrue(rows[0].endswith(" x") and rows[2].endswith(" x") and not rows[1].endswith("x"))


class Refusals(unittest.TestCase):
    """Each refusal by its own class, with what it carries."""

    def test_each_class(self):
        calls = {
            "NoNumber": [
                lambda: common(0, 3), lambda: met(1, 0, 1, 2), lambda: ahead(1, -1, 5), lambda: round_by(0, []),
                lambda: stretched((2, 1), 3), lambda: folded((2, 1), 0), lambda: nth_day((2, 1), 0, 0),
                lambda: kth(0, (2, 1), (3, 1)), lambda: every(0, (2, 1), 3), lambda: dated(OLD, 0), lambda: Each(0, 1),
                lambda: Kth(0, Each(2, 0), Each(3, 0)), lambda: almanac(OLD, [], 0, 401),
            ],
            "NoMeasure": [lambda: Measure(-1), lambda: Sun(0, []), lambda: read_calendar("moon 0 0 / 12")],
            "NoChange": [lambda: Change(NEW, OLD, 578103)],
            "NoCycle": [CHANGE.cycle, lambda: dated(CHANGE, 1, 1), lambda: Dated("x", CHANGE)],
            "NoText": [lambda: read_number("-0"), lambda: read_date("1/1/1"), lambda: read_calendar("sun"),
                       lambda: read_almanac(["0"])],
            "NoRule": [lambda: read_rule("(all)", {})],
            "NoRow": [lambda: Desk().say("dates x 5")],
        }
        for name, refused in calls.items():
            for call in refused:
                with self.subTest(name):
                    with self.assertRaises(errors.FeastError) as taken:
                        call()
                    self.assertIs(type(taken.exception), getattr(errors, name))

    def test_what_they_carry(self):
        calls = [
            (lambda: both((149999, 1), (2, 1)), errors.TooLong, {"needed": 299998}),
            (lambda: upon((149999, 1), (2, 1)), errors.TooLong, {"needed": 299998}),
            (lambda: Both(Each(149999, 1), Each(2, 1)), errors.TooLong, {"needed": 299998}),
            (lambda: OLD.day_of((5, FAR, 1)), errors.NoDate, {"date": (5, FAR, 1)}),
            (lambda: CHANGE.day_of((1582, 10, 9)), errors.InGap, {"date": (1582, 10, 9), "day": 578103}),
            (lambda: moved((1582, 10, 9), CHANGE, OLD), errors.InGap, {"date": (1582, 10, 9), "day": 578103}),
            (lambda: read_rule("date sun 1 1", {}), errors.NoName, {"name": "sun"}),
            (lambda: Desk().say("on week 5"), errors.NoName, {"name": "week"}),
        ]
        for call, kind, fields in calls:
            with self.subTest(kind.__name__):
                with self.assertRaises(kind) as taken:
                    call()
                self.assertIs(type(taken.exception), kind)
                self.assertEqual({name: getattr(taken.exception, name) for name in fields}, fields)

    def test_the_change_that_refuses_is_the_one_within(self):
        later_change = Change(CHANGE, Sun(-1000000, [365]), 800000)
        with self.assertRaises(errors.InGap) as taken:
            later_change.day_of((1582, 10, 9))
        self.assertEqual(taken.exception.day, 578103)


class NothingIsChanged(unittest.TestCase):
    def test_every_list_that_is_told_is_a_new_one(self):
        rule = Not(Both(Each(2, 0), Each(3, 0)))
        rules = [("x", rule)]
        for ask in (rule.parts, lambda: OLD.lengths(3), lambda: LUNAR.lengths(3), lambda: almanac(OLD, rules, 0, 5),
                    lambda: read_almanac(["0 1/01/01 a,b"]), lambda: read_almanac(["0 1/01/01 a,b"])[0][2]):
            first = ask()
            kept = list(first)
            first.append("more")
            self.assertEqual(ask(), kept)
        self.assertEqual(rules, [("x", rule)])

    def test_rules_stay_as_they_are_whatever_is_asked(self):
        for tree in some_trees(42, 60, 4):
            rule = built(tree)
            before = (rule.turn(), rule.size(), rule.shown())
            last_day(rule.turn(), -FAR)
            shorter(rule)
            almanac(CALENDARS["sun"], [("x", rule)], 0, 9)
            same(rule.turn(), Not(rule).turn(), 0)
            self.assertEqual((rule.turn(), rule.size(), rule.shown()), before)
