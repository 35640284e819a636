"""Points 2, 48 and 49: feastwheel.almanac."""

import inspect
import unittest

from feastwheel import almanac as almanacs
from feastwheel.almanac import almanac, read_almanac
from feastwheel.calendars import Moon, Sun
from feastwheel.changes import Change
from feastwheel.errors import NoNumber, NoText
from feastwheel.measures import Measure
from feastwheel.numbers import date_text
from feastwheel.rules import All, Both, Dated, Each, No, Not
from helper import FAR, FOURTH, GREGORIAN, NO_TEXTS, TWELVE

OLD = Sun(0, TWELVE, 2, [FOURTH])
NEW = Sun(2, TWELVE, 2, GREGORIAN)
CHANGE = Change(OLD, NEW, 578103)
LUNAR = Moon(12, Measure(29, [(1, 1, 0, 2)]), Measure(12, [(1, 7, 0, 19)]))
# Twelve months of thirty days; day -1 is the last one of year 0.
THIRTIES = Sun(-360, [30] * 12)
WEEK = ("week", Each(7, 3))
ODD = ("odd", Each(2, 1))
RULES = [WEEK, ODD, ("all", All()), ("none", No()), ("march", Dated("sun", NEW, 3))]

# A row as it stands, and what it tells.
ROWS = {
    "0 1/01/01": (0, (1, 1, 1), []),
    "-1 0/12/30 fast": (-1, (0, 12, 30), ["fast"]),
    " 0 1/01/01": (0, (1, 1, 1), []),
    "  -7   -5/03/12   a,b  ": (-7, (-5, 3, 12), ["a", "b"]),
    "7 7/12/104 fast,fast,abcdefgh,z": (7, (7, 12, 104), ["fast", "fast", "abcdefgh", "z"]),
    "5 0/01/01 b,a": (5, (0, 1, 1), ["b", "a"]),
    f"-{10 ** 60 - 1} {10 ** 60 - 1}/10/{10 ** 59} all": (1 - 10 ** 60, (10 ** 60 - 1, 10, 10 ** 59), ["all"]),
    "12 99/99/99": (12, (99, 99, 99), []),
}
NO_ROWS = [
    "", " ", "0", " 0 ", "1/01/01", "0 1/01/01 a b", "0 1/01/01 a, b", "0 1/01/01 a ,b", "0 1 1/01/01",
    "0 1/01/01 a b c",
    # Another sign for a blank.
    "0\n1/01/01", "0\t1/01/01", "0 1/01/01\n", "\n0 1/01/01", "0 1/01/01 a\n", "0 1/01/01\ta", "0 1/01/01 a\t",
    "0\r1/01/01", "0 1/01/01\n1 1/01/02",
    # Names.
    "0 1/01/01 ,", "0 1/01/01 a,", "0 1/01/01 ,a", "0 1/01/01 a,,b", "0 1/01/01 ninelette", "0 1/01/01 a,ninelette,b",
    "0 1/01/01 Fast", "0 1/01/01 fasT", "0 1/01/01 fast1", "0 1/01/01 a;b", "0 1/01/01 a-b", "0 1/01/01 5",
    "0 1/01/01 1/01/02",
    # Numbers and dates.
    "00 1/01/01", "-0 1/01/01", "+1 1/01/01", "x 1/01/01", "1. 1/01/01", f"{10 ** 60} 1/01/01", "0 1/1/01", "0 1/01/1",
    "0 1/01", "0 1/00/01", "0 1/01/00", "0 1/001/01", "0 01/01/01", "0 -0/01/01", "0 1/-1/01", "0 1/01/01/01",
    "0 x/01/01", "0 1-01-01", "1/01/01 0", "a 0 1/01/01", "0 a 1/01/01", "- 1/01/01", f"0 {10 ** 60}/01/01",
]


def told_rows(calendar, rules, day, many):
    """The words of point 48."""
    days = range(day, day + many)
    width = max((len(str(number)) for number in days), default=0)
    date_width = max((len(date_text(calendar.date_of(number))) for number in days), default=0)
    rows = []
    for number in days:
        names = ",".join(name for name, rule in rules if rule.on(number))
        date = date_text(calendar.date_of(number))
        row = " " * (width - len(str(number))) + str(number) + " " + date + " " * (date_width - len(date)) + " " + names
        while row.endswith(" "):
            row = row[:-1]
        rows.append(row)
    return rows


class Interface(unittest.TestCase):
    def test_names_and_arguments(self):
        told = {"almanac": ["calendar", "rules", "day", "many"], "read_almanac": ["rows"]}
        for name, arguments in told.items():
            self.assertEqual(list(inspect.signature(getattr(almanacs, name)).parameters), arguments)


class Almanac(unittest.TestCase):
    def check(self, calendar, rules, day, many):
        told = almanac(calendar, rules, day, many)
        self.assertIs(type(told), list)
        self.assertEqual(told, told_rows(calendar, rules, day, many))
        return told

    def test_the_rows_of_the_document(self):
        fast = Both(Dated("sun", THIRTIES, 12, -1), Not(No()))
        self.assertEqual(almanac(THIRTIES, [("fast", fast)], -1, 2), ["-1 0/12/30 fast", " 0 1/01/01"])

    def test_as_told(self):
        for calendar in (OLD, NEW, LUNAR, CHANGE, THIRTIES):
            for day, many in ((0, 30), (-5, 12), (-105, 200), (95, 10), (578095, 20), (FAR, 40), (-FAR - 5, 20)):
                self.check(calendar, RULES, day, many)

    def test_how_many(self):
        self.assertEqual(almanac(NEW, RULES, 5, 0), [])
        self.assertEqual(len(self.check(NEW, RULES, 5, 1)), 1)
        self.assertEqual(len(self.check(NEW, RULES, -200, 400)), 400)
        for many in (-1, 401, -400, FAR, -FAR):
            with self.subTest(many=many):
                with self.assertRaises(NoNumber):
                    almanac(NEW, RULES, 5, many)

    def test_days_of_unlike_widths(self):
        self.assertEqual(almanac(THIRTIES, [], 8, 4), [" 8 1/01/09", " 9 1/01/10", "10 1/01/11", "11 1/01/12"])
        self.assertEqual(almanac(THIRTIES, [], -2, 3), ["-2 0/12/29", "-1 0/12/30", " 0 1/01/01"])
        self.assertEqual(almanac(THIRTIES, [], -11, 3), ["-11 0/12/20", "-10 0/12/21", " -9 0/12/22"])

    def test_dates_of_unlike_widths(self):
        year = Sun(0, [101])
        self.assertEqual(almanac(year, [ODD], 98, 4),
                         [" 98 0/01/99", " 99 0/01/100 odd", "100 0/01/101", "101 1/01/01  odd"])
        self.assertEqual(almanac(THIRTIES, [ODD], -361, 2), ["-361 -1/12/30 odd", "-360 0/01/01"])
        self.assertEqual(almanac(THIRTIES, [("all", All())], -361, 2), ["-361 -1/12/30 all", "-360 0/01/01  all"])

    def test_no_blank_at_a_row_s_end(self):
        for row in almanac(Sun(0, [101]), [WEEK], 60, 400):
            self.assertEqual(row, row.rstrip())

    def test_names_in_the_order_of_the_list(self):
        always = All()
        self.assertEqual(almanac(THIRTIES, [("b", always), ("a", always), ("c", always)], 0, 1), ["0 1/01/01 b,a,c"])
        self.assertEqual(almanac(THIRTIES, [("c", always), ("a", No()), ("b", always)], 0, 1), ["0 1/01/01 c,b"])

    def test_a_name_of_two_rules(self):
        rules = [("x", Each(2, 0)), ("y", All()), ("x", Each(3, 0))]
        self.assertEqual(almanac(THIRTIES, rules, 0, 4),
                         ["0 1/01/01 x,y,x", "1 1/01/02 y", "2 1/01/03 x,y", "3 1/01/04 y,x"])
        self.assertEqual(almanac(THIRTIES, [ODD, ODD], 1, 1), ["1 1/01/02 odd,odd"])

    def test_a_change_as_the_calendar(self):
        self.assertEqual(almanac(CHANGE, [WEEK], 578101, 4),
                         ["578101 1582/10/03", "578102 1582/10/04", "578103 1582/10/15", "578104 1582/10/16"])

    def test_without_rules(self):
        self.check(LUNAR, [], -10, 30)

    def test_many_rules(self):
        rules = [("x", Each(150000, rest)) for rest in range(1000)]
        told = almanac(NEW, rules, -200, 400)
        self.assertEqual(told[199], "  -1 " + date_text(NEW.date_of(-1)))
        self.assertEqual(told[200], "   0 " + date_text(NEW.date_of(0)) + " x")

    def test_nothing_is_changed_and_a_new_list_is_told(self):
        rules = [WEEK, ODD]
        told = almanac(NEW, rules, 0, 3)
        self.assertEqual(rules, [WEEK, ODD])
        told.clear()
        self.assertEqual(len(almanac(NEW, rules, 0, 3)), 3)


class ReadAlmanac(unittest.TestCase):
    def test_rows(self):
        for row, told in ROWS.items():
            with self.subTest(row):
                self.assertEqual(read_almanac([row]), [told])

    def test_each_by_itself_in_their_order(self):
        self.assertEqual(read_almanac(list(ROWS)), list(ROWS.values()))
        self.assertEqual(read_almanac(list(ROWS)[::-1]), list(ROWS.values())[::-1])
        self.assertEqual(read_almanac([]), [])
        self.assertEqual(read_almanac(["0 1/01/01", "0 1/01/01"]), [(0, (1, 1, 1), [])] * 2)

    def test_kinds(self):
        told = read_almanac(["5 1/01/01 a", "5 1/01/01"])
        self.assertIs(type(told), list)
        for row in told:
            self.assertEqual([type(part) for part in row], [int, tuple, list])
        told[0][2].append("b")
        self.assertEqual(read_almanac(["5 1/01/01 a"]), [(5, (1, 1, 1), ["a"])])

    def test_what_is_no_row(self):
        for row in NO_ROWS:
            with self.subTest(row):
                with self.assertRaises(NoText):
                    read_almanac([row])
                with self.assertRaises(NoText):
                    read_almanac(["0 1/01/01", row])

    def test_what_is_no_text(self):
        for row in NO_TEXTS:
            with self.assertRaises(NoText):
                read_almanac(["0 1/01/01", row])

    def test_the_rows_of_almanacs(self):
        for calendar in (OLD, LUNAR, CHANGE):
            for day in (-105, 578000, 10 ** 50, -10 ** 50):
                told = read_almanac(almanac(calendar, RULES, day, 150))
                self.assertEqual(told, [
                    (number, calendar.date_of(number), [name for name, rule in RULES if rule.on(number)])
                    for number in range(day, day + 150)
                ])

    def test_the_rows_stay_as_they_were(self):
        rows = list(ROWS)
        read_almanac(rows)
        self.assertEqual(rows, list(ROWS))
