"""Points 2, 50 and 51: feastwheel.desk."""

import inspect
import unittest

from feastwheel.almanac import almanac
from feastwheel.asks import how_many, last_day, next_day, nth_day
from feastwheel.calendar_texts import read_calendar
from feastwheel.changes import Change, moved
from feastwheel.desk import Desk
from feastwheel.errors import (
    InGap, NoChange, NoCycle, NoDate, NoMeasure, NoName, NoNumber, NoRow, NoRule, NoText, TooLong,
)
from feastwheel.numbers import date_text, read_date
from feastwheel.papers import meeting, same, within
from feastwheel.rounds import least
from feastwheel.rule_texts import read_rule
from feastwheel.shorter import shorter
from helper import NO_TEXTS

SIXTY = 10 ** 60 - 1
OLD = "sun 0 31,28,31,30,31,30,31,31,30,31,30,31 leap 2 +1,3,4"
NEW = "sun 2 31,28,31,30,31,30,31,31,30,31,30,31 leap 2 +1,3,4 -1,99,100 +1,399,400"
MOON = "moon 12 29 +1,0,2 / 12 +7,0,19"
CALENDARS = {"old": OLD, "new": NEW, "moon": MOON}
RULES = {
    "week": "each 7 from 3",
    "tens": "each 10 from 3",
    "odd": "each 2 from 1",
    "even": "each 2 from 0",
    "none": "none",
    "never": "(each 4 from 1 and each 4 from 2)",
    "all": "(none or (all and all))",
    "twoset": "(each 7 from 3 or each 7 from 5)",
    "march": "date new 3 1",
    "easter": "(each 7 from 0 upon date new 3 1)",
    "moon": "date old * -1",
}
DAYS = (0, 1, -1, 63, -1000, 578103, SIXTY, -SIXTY)


def kept_desk():
    """A desk that keeps the calendars and the rules, and the change of old and new."""
    desk = Desk()
    for name, text in CALENDARS.items():
        desk.say(f"calendar {name} {text}")
    desk.say("change both old new 578103")
    for name, text in RULES.items():
        desk.say(f"rule {name} {text}")
    return desk


class DeskCase(unittest.TestCase):
    def setUp(self):
        self.desk = kept_desk()
        self.calendars = {name: read_calendar(text) for name, text in CALENDARS.items()}
        self.calendars["both"] = Change(self.calendars["old"], self.calendars["new"], 578103)
        self.rules = {name: read_rule(text, self.calendars) for name, text in RULES.items()}

    def assert_says(self, answer, row):
        with self.subTest(row=row):
            told = self.desk.say(row)
            self.assertIs(type(told), str)
            self.assertEqual(told, answer)

    def assert_refused(self, refusal, row):
        with self.subTest(refusal=refusal.__name__, row=row):
            with self.assertRaises(refusal) as taken:
                self.desk.say(row)
            self.assertIs(type(taken.exception), refusal)
            return taken.exception

    def assert_no_name(self, name, row):
        self.assertEqual(self.assert_refused(NoName, row).name, name)


class Interface(unittest.TestCase):
    def test_names_and_arguments(self):
        self.assertEqual(list(inspect.signature(Desk).parameters), [])
        self.assertEqual(list(inspect.signature(Desk().say).parameters), ["row"])


class RowsThatKeep(DeskCase):
    def test_calendars(self):
        self.assert_says("ok", "calendar sun sun 0 10,20")
        self.assert_says("2/02/16", "date sun 85")
        self.assert_says("ok", f"calendar abcdefgh {MOON}")
        self.assert_says(self.desk.say("date moon 5000"), "date abcdefgh 5000")

    def test_changes(self):
        self.assert_says("ok", "change both old new 578103")
        self.assert_says("1582/10/04", "date both 578102")
        self.assert_says("1582/10/15", "date both 578103")
        self.assert_says("ok", "change old old new 578103")
        self.assert_says("1582/10/15", "date old 578103")

    def test_a_change_of_a_change(self):
        self.assert_says("ok", "calendar far sun -1000000 365")
        far = read_calendar("sun -1000000 365")
        twice = Change(self.calendars["both"], far, 800000)
        self.assert_says("ok", "change twice both far 800000")
        for day in (0, 578102, 578103, 799999, 800000, 900000, -SIXTY):
            self.assert_says(date_text(twice.date_of(day)), f"date twice {day}")

    def test_rules(self):
        self.assert_says("ok", "rule x (2 later each 7 from 1)")
        self.assert_says("(2 later each 7 from 1)", "show x")
        self.assert_says("ok", "rule x date old 1 1 each 2 from 5")
        self.assert_says("date old 1 1 each 2 from 1", "show x")


class RowsThatAsk(DeskCase):
    def test_dates_and_days(self):
        for name, calendar in self.calendars.items():
            for day in DAYS:
                date = date_text(calendar.date_of(day))
                self.assert_says(date, f"date {name} {day}")
                self.assert_says(str(day), f"day {name} {date}")

    def test_moved_dates(self):
        for name, one in self.calendars.items():
            for other_name, other in self.calendars.items():
                for day in (0, 577000, 578103, 10 ** 50):
                    date = one.date_of(day)
                    self.assert_says(date_text(moved(date, one, other)), f"move {name} {other_name} {date_text(date)}")
        self.assert_says("1582/10/05", "move new old 1582/10/15")
        self.assert_says("1582/10/15", "move old new 1582/10/05")

    def test_asks_of_a_rule(self):
        for name, rule in self.rules.items():
            turn = rule.turn()
            for day in DAYS:
                self.assert_says("yes" if rule.on(day) else "no", f"on {name} {day}")
                self.assert_says(str(next_day(turn, day) if turn[1] else "never"), f"next {name} {day}")
                self.assert_says(str(last_day(turn, day) if turn[1] else "never"), f"last {name} {day}")
                for number in (1, 2, -1, -5, SIXTY):
                    asked = nth_day(turn, day, number)
                    self.assert_says("never" if asked is None else str(asked), f"nth {name} {day} {number}")
                for end in (0, -5, 500, SIXTY):
                    self.assert_says(str(how_many(turn, day, end)), f"count {name} {day} {end}")

    def test_as_walked(self):
        self.assert_says("yes", "on week 3")
        self.assert_says("no", "on week 4")
        self.assert_says("10", "next week 4")
        self.assert_says("3", "next week 3")
        self.assert_says("3", "last week 9")
        self.assert_says("-4", "last week 2")
        self.assert_says("17", "nth week 4 2")
        self.assert_says("-4", "nth week 9 -2")
        self.assert_says("2", "count week 3 17")
        self.assert_says("-2", "count week 17 3")
        self.assert_says("0", "count week 17 17")
        for row in ("next never 5", "last never 5", "nth never 5 1", "nth none 5 -7"):
            self.assert_says("never", row)

    def test_sizes_of_least_rounds(self):
        for name, rule in self.rules.items():
            self.assert_says(str(least(rule.turn())[0]), f"size {name}")
        self.assert_says("1", "size never")
        self.assert_says("1", "size all")

    def test_two_rules(self):
        for name, rule in self.rules.items():
            for other_name, other in self.rules.items():
                for day in (0, -1000, SIXTY):
                    words = f"{name} {other_name} {day}"
                    paper = same(rule.turn(), other.turn(), day)
                    number = paper[1][0] if paper[0] == "same" else paper[1]
                    self.assert_says(f"{paper[0]} {number}", f"same {words}")
                    for word, ask in (("meet", meeting), ("within", within)):
                        try:
                            paper = ask(rule.turn(), other.turn(), day)
                        except TooLong as error:
                            self.assertEqual(self.assert_refused(TooLong, f"{word} {words}").needed, error.needed)
                        else:
                            self.assert_says(f"{paper[0]} {paper[1]}", f"{word} {words}")

    def test_two_rules_as_walked(self):
        self.assert_says("same 2", "same odd odd 5")
        self.assert_says("same 1", "same none never 5")
        self.assert_says("parted 10", "same week tens 0")
        self.assert_says("meet 73", "meet week tens 4")
        self.assert_says("never 2", "meet odd even 4")
        self.assert_says("within 7", "within week twoset 4")
        self.assert_says("outside 5", "within twoset week 4")
        # The size of the paper is that of both rules' rounds as they are made, not of their least ones.
        self.assert_says("never 4", "meet never never 0")
        self.assert_says("within 4", "within never never 0")

    def test_texts_of_rules(self):
        for name, rule in self.rules.items():
            self.assert_says(rule.shown(), f"show {name}")
            self.assert_says(shorter(rule).shown(), f"shorter {name}")
        self.assert_says("all", "shorter all")
        self.assert_says("none", "shorter never")
        self.assert_says("(none or (all and all))", "show all")

    def test_almanacs(self):
        for name in self.calendars:
            for day, many in ((0, 1), (-5, 12), (578100, 10), (10 ** 50, 400)):
                rules = [(word, self.rules[word]) for word in ("week", "odd", "week", "moon")]
                rows = almanac(self.calendars[name], rules, day, many)
                self.assert_says("\n".join(rows), f"almanac {name} {day} {many} week odd week moon")
                rows = almanac(self.calendars[name], [], day, many)
                self.assert_says("\n".join(rows), f"almanac {name} {day} {many}")
        self.assert_says("", "almanac new 5 0")
        self.assert_says("", "almanac new 5 0 week odd")
        self.assert_says("-1 -1/12/31 odd\n 0 0/01/01", "almanac old -1 2 odd")
        self.assert_says(" 9 0/01/10 odd\n10 0/01/11 week", "almanac old 9 2 week odd")

    def test_many_names_in_an_almanac(self):
        names = " ".join(["odd"] * 1000)
        self.assert_says("1 0/01/02 " + ",".join(["odd"] * 1000), f"almanac old 1 1 {names}")


class Rows(DeskCase):
    def test_each_first_word_with_too_few_and_too_many_words(self):
        whole = {
            "change x old new 5": 5, "date old 5": 3, "day old 5/01/01": 3, "move old new 5/01/01": 4, "on week 5": 3,
            "next week 5": 3, "last week 5": 3, "nth week 5 1": 4, "count week 5 9": 4, "size week": 2,
            "same week odd 5": 4, "meet week odd 5": 4, "within week odd 5": 4, "shorter week": 2, "show week": 2,
        }
        for row, many in whole.items():
            words = row.split(" ")
            self.assertEqual(len(words), many)
            for fewer in range(1, many):
                self.assert_refused(NoRow, " ".join(words[:fewer]))
            for more in (" ", " 5", " week", " old new", "  "):
                self.assert_refused(NoRow, row + more)
        for row in ("almanac old 5 1", "almanac old 5 1 week"):
            for fewer in range(1, 4):
                self.assert_refused(NoRow, " ".join(row.split(" ")[:fewer]))

    def test_a_text_at_the_end(self):
        for word in ("calendar", "rule"):
            self.assert_refused(NoRow, word)
            self.assert_refused(NoRow, f"{word} x")
            self.assert_refused(NoRow, f"{word} ")
        self.assert_refused(NoText, "calendar x ")
        self.assert_refused(NoRule, "rule x ")
        self.assert_refused(NoText, "calendar x  sun 0 1")
        self.assert_refused(NoText, "calendar x sun 0 1 ")
        self.assert_refused(NoText, "calendar x sun  0 1")
        self.assert_refused(NoRule, "rule x  all")
        self.assert_refused(NoRule, "rule x all ")
        self.assert_says("ok", "rule x all")
        self.assert_says("ok", "rule x (all and (not none))")

    def test_words_that_begin_no_row(self):
        for row in ("", " ", "  ", "x", "Calendar x sun 0 1", "dates old 5", "DATE old 5", "week", "old", "5",
                    " date old 5", "date\told 5", "date", "never week 5", "meeting week odd 5", "of week 5", "say",
                    "keep x", "\ndate old 5", "almanacs old 5 1"):
            self.assert_refused(NoRow, row)

    def test_what_is_no_text(self):
        for row in NO_TEXTS:
            with self.assertRaises(NoRow):
                self.desk.say(row)

    def test_two_blanks_side_by_side(self):
        self.assert_no_name("", "calendar  sun 0 1")
        self.assert_no_name("", "rule  all")
        self.assert_no_name("", "size ")
        self.assert_no_name("", "on  5")
        self.assert_no_name("", "date  5")
        self.assert_no_name("", "almanac old 5 1 ")
        self.assert_no_name("", "almanac old 5 1  week")
        self.assert_no_name("", "almanac  5 1")
        self.assert_no_name("", "change  old new 5")
        self.assert_refused(NoText, "on week ")
        self.assert_refused(NoText, "day old ")
        self.assert_refused(NoText, "nth week  1")
        self.assert_refused(NoText, "almanac old  1")
        self.assert_refused(NoRow, "on  week 5")
        self.assert_refused(NoRow, "date old  5")

    def test_other_signs_are_no_blanks(self):
        self.assert_refused(NoRow, "on week\t5")
        self.assert_no_name("week\t5", "size week\t5")
        self.assert_refused(NoText, "on week 5\n")
        self.assert_no_name("week\n", "size week\n")


class Words(DeskCase):
    def test_names_that_are_none(self):
        for name in ("", "X", "sUn", "ninelette", "sun1", "5", "sun-a", "su,n", "(all)", "*"):
            self.assert_no_name(name, f"calendar {name} sun 0 1")
            self.assert_no_name(name, f"rule {name} all")
            self.assert_no_name(name, f"change {name} old new 578103")

    def test_names_under_which_nothing_is_kept(self):
        for row in ("date x 5", "day x 5/01/01", "move x old 5/01/01", "move old x 5/01/01", "change y x new 5",
                    "change y old x 5", "almanac x 5 1", "almanac old 5 1 x", "almanac old 5 1 week x", "on x 5",
                    "next x 5", "last x 5", "nth x 5 1", "count x 5 9", "size x", "same x week 5", "same week x 5",
                    "meet x week 5", "meet week x 5", "within x week 5", "within week x 5", "shorter x", "show x"):
            self.assert_no_name("x", row)

    def test_calendars_are_no_rules_and_rules_no_calendars(self):
        for row in ("on old 5", "size old", "show both", "almanac old 5 1 old"):
            self.assert_no_name(row.split(" ")[-1 if row.startswith(("size", "show", "almanac")) else 1], row)
        for row in ("date week 5", "change x week new 5", "move week old 5/01/01", "almanac week 5 1"):
            self.assert_no_name("week", row)
        self.assert_no_name("week", "rule x date week 1 1")
        self.assert_no_name("x", "rule y date x 1 1")

    def test_words_that_are_no_numbers(self):
        for number in ("", "x", "05", "-0", "+5", "5.", "1e3", "week", "5/01/01", "--5", str(SIXTY + 1),
                       f"-{SIXTY + 1}"):
            for row in ("date old N", "on week N", "next week N", "last week N", "nth week N 1", "nth week 1 N",
                        "count week N 1", "count week 1 N", "same week odd N", "meet week odd N", "within week odd N",
                        "change x old new N", "almanac old N 1", "almanac old 5 N", "almanac old 5 N week"):
                self.assert_refused(NoText, row.replace("N", number))

    def test_words_that_are_no_dates(self):
        for date in ("", "x", "5", "5/1/1", "5/01", "5/00/01", "5/01/00", "05/01/01", "5/01/01/01", "-0/01/01",
                     "5-01-01", f"{SIXTY + 1}/01/01"):
            self.assert_refused(NoText, f"day old {date}")
            self.assert_refused(NoText, f"move old new {date}")

    def test_from_the_left(self):
        self.assert_no_name("X", "calendar X nonsense")
        self.assert_no_name("X", "rule X nonsense")
        self.assert_no_name("X", "change X y z w")
        self.assert_no_name("y", "change x y z w")
        self.assert_no_name("z", "change x old z w")
        self.assert_refused(NoText, "change x old new w")
        self.assert_no_name("x", "move x y 5")
        self.assert_no_name("y", "move old y 5")
        self.assert_no_name("x", "on x y")
        self.assert_no_name("x", "same x y z")
        self.assert_no_name("y", "same week y z")
        self.assert_no_name("x", "nth x y z")
        self.assert_refused(NoText, "nth week y 0")
        self.assert_refused(NoText, "nth week 0 y")
        self.assert_no_name("x", "almanac x y z w")
        self.assert_refused(NoText, "almanac old y 1 w")
        self.assert_refused(NoText, "almanac old 1 y w")
        self.assert_no_name("w", "almanac old 1 401 w")
        self.assert_no_name("w", "almanac old 1 1 week w v")

    def test_the_row_ahead_of_its_words(self):
        for row in ("on x", "on x y z", "change X y z", "calendar X", "size", "same x y", "almanac x y", "nth x y"):
            self.assert_refused(NoRow, row)


class Done(DeskCase):
    def test_refusals_of_what_is_done(self):
        self.assert_refused(NoText, "calendar x nonsense")
        self.assert_refused(NoMeasure, "calendar x sun 0 0")
        self.assert_refused(NoChange, "change x new old 578103")
        self.assert_refused(NoRule, "rule x nonsense")
        self.assert_refused(NoNumber, "rule x each 0 from 0")
        self.assert_refused(NoCycle, "rule x date both 1 1")
        self.assert_no_name("star", "rule x date star 1 1")
        self.assertEqual(self.assert_refused(TooLong, "rule x each 150001 from 0").needed, 150001)
        self.assert_refused(NoNumber, "nth week 5 0")
        self.assert_refused(NoNumber, "nth none 5 0")
        self.assert_refused(NoNumber, "almanac old 5 401 week")
        self.assert_refused(NoNumber, "almanac old 5 -1")

    def test_dates_that_no_day_has(self):
        for date in ("1582/10/77", "1583/02/29", "5/13/01", "-3/01/32", f"{SIXTY}/20/01"):
            for row in (f"day both {date}", f"move both old {date}"):
                self.assertEqual(self.assert_refused(NoDate, row).date, read_date(date))
        for date in ("1582/10/09", "1582/10/05", "1582/10/14"):
            for row in (f"day both {date}", f"move both old {date}"):
                error = self.assert_refused(InGap, row)
                self.assertEqual((error.date, error.day), (read_date(date), 578103))

    def test_meetings_that_are_too_long(self):
        self.desk.say("rule one (not each 149999 from 0)")
        self.desk.say("rule two (not each 150000 from 0)")
        for row in ("meet one two 5", "within one odd 5"):
            needed = 149999 * (150000 if "meet" in row else 2)
            self.assertEqual(self.assert_refused(TooLong, row).needed, needed)
        self.assert_says("parted 149999", "same one two 5")

    def test_the_text_of_a_calendar_and_of_a_rule_may_be_long(self):
        self.assert_refused(NoText, "calendar x " + "sun 0 " + "1," * 2000)
        self.assert_refused(NoMeasure, "calendar x sun 0 " + "1," * 1996 + "1")
        self.assert_refused(NoRule, "rule x " + "(not " * 41 + "all" + ")" * 41)
        self.assert_says("ok", "rule x " + "(not " * 40 + "all" + ")" * 40)


class Kept(DeskCase):
    def everything(self):
        """What the desk tells of all that it keeps."""
        rows = [f"date {name} {day}" for name in self.calendars for day in (0, 578102, 578103)]
        rows += [f"show {name}" for name in self.rules] + [f"next {name} 1000" for name in self.rules]
        return [self.desk.say(row) for row in rows]

    def test_what_is_refused_changes_nothing(self):
        before = self.everything()
        for row in ("calendar old nonsense", "calendar old sun 0 0", "calendar new ", "calendar old",
                    "change old new old 578103", "change both both new x", "change both both x 5",
                    "rule week nonsense", "rule week each 0 from 0", "rule week date star 1 1",
                    "rule week date both 1 1", "rule week ", "rule odd", "rule Week all", "x", "calendar X sun 0 1",
                    "day both 1582/10/09", "nth week 5 0", "almanac old 5 401", "rule odd each 150001 from 0"):
            with self.assertRaises(ValueError):
                self.desk.say(row)
            self.assertEqual(self.everything(), before)
        with self.assertRaises(NoName):
            self.desk.say("size Week")

    def test_rows_that_ask_change_nothing(self):
        before = self.everything()
        for row in ("date old 5", "day old 5/01/01", "move old new 5/01/01", "on week 5", "next week 5", "last week 5",
                    "nth week 5 2", "count week 5 9", "size week", "same week odd 5", "meet week odd 5",
                    "within week odd 5", "shorter all", "show week", "almanac old 5 9 week odd"):
            first = self.desk.say(row)
            self.assertEqual(self.desk.say(row), first)
        self.assertEqual(self.everything(), before)

    def test_a_name_put_again(self):
        self.assert_says("ok", "rule week each 7 from 4")
        self.assert_says("each 7 from 4", "show week")
        self.assert_says("no", "on week 3")
        self.assert_says("ok", "calendar old sun 0 10")
        self.assert_says("1/01/03", "date old 12")
        self.assert_says("ok", "change old both new 600000")
        self.assert_says("1582/10/15", "date old 578103")
        self.assert_says("ok", f"calendar both {MOON}")
        self.assert_says(date_text(self.calendars["moon"].date_of(578103)), "date both 578103")

    def test_rules_keep_the_calendars_with_which_they_were_made(self):
        turn = self.rules["march"].turn()
        self.assert_says("ok", "calendar new sun 0 10,10,10,10")
        self.assert_says(str(next_day(turn, 5)), "next march 5")
        self.assert_says(str(turn[0]), "size march")
        self.assert_says("date new 3 1", "show march")
        self.assert_says("ok", "rule march date new 3 1")
        self.assert_says("20", "next march 5")

    def test_changes_keep_the_calendars_with_which_they_were_made(self):
        self.assert_says("ok", "calendar old sun 0 10")
        self.assert_says("ok", "calendar new sun 0 20")
        self.assert_says("1582/10/04", "date both 578102")
        self.assert_says("1582/10/15", "date both 578103")

    def test_a_calendar_and_a_rule_by_the_same_name(self):
        self.assert_says(date_text(self.calendars["moon"].date_of(77)), "date moon 77")
        self.assert_says("date old * -1", "show moon")
        self.assert_says("ok", "calendar week sun 0 7")
        self.assert_says("each 7 from 3", "show week")
        self.assert_says("ok", "rule week date week 1 2")
        self.assert_says("0/01/04", "date week 3")
        self.assert_says("8", "next week 2")
        self.assert_says("7 1/01/01\n8 1/01/02 week", "almanac week 7 2 week")

    def test_two_desks_do_not_know_of_each_other(self):
        other = Desk()
        for row in ("date old 5", "show week"):
            with self.assertRaises(NoName):
                other.say(row)
        other.say("rule week none")
        other.say("calendar old sun 0 1")
        self.assert_says("each 7 from 3", "show week")
        self.assert_says("0/01/06", "date old 5")
        self.assertEqual(other.say("show week"), "none")
        self.assertEqual(other.say("date old 5"), "5/01/01")
        self.assertEqual(kept_desk().say("show week"), "each 7 from 3")

    def test_a_new_desk_keeps_nothing(self):
        for row in ("date sun 0", "on week 0", "rule x date sun 1 1", "change x old new 5"):
            with self.assertRaises(NoName):
                Desk().say(row)
        self.assertEqual(Desk().say("rule x all"), "ok")
