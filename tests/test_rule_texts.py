"""Points 2, 41, 42, 43 and 47: feastwheel.rule_texts."""

import inspect
import unittest

from feastwheel import rule_texts
from feastwheel.calendars import Sun
from feastwheel.changes import Change
from feastwheel.errors import NoCycle, NoName, NoNumber, NoRule, TooLong
from feastwheel.rounds import least
from feastwheel.rule_texts import read_rule
from feastwheel.rules import Dated, Each, Every, Kth, Later, Not
from feastwheel.shorter import shorter
from helper import FOURTH, GREGORIAN, LONGEST, NO_TEXTS, TWELVE
from trees import CALENDARS, built, count_of, shown, some_trees, walked

SIXTY = 10 ** 60 - 1
OLD = Sun(0, TWELVE, 2, [FOURTH])
NEW = Sun(2, TWELVE, 2, GREGORIAN)
NAMED = {"old": OLD, "new": NEW, "change": Change(OLD, NEW, 578103)}
NAMED.update(CALENDARS)

# Each of these is no rule's text.
NO_FORM = [
    "", " ", "(", ")", "()", "( )", "x", "All", "ALL", "alll", "al", "no", "every", "not", "and", "each", "date", "0",
    "5",
    # Blanks doubled, ahead, behind, by the brackets, and other signs for them.
    " all", "all ", "  all", "(not  all)", "( not all)", "(not all )", "(not all) ", " (not all)",
    "( (not all) and all)", "((not all) and all )", "(all  and all)", "(all and  all)", "each  3 from 1",
    "each 3  from 1", "each 3 from  1", "each 3 from 1 ", "date sun  * *", "date sun * * ", "date sun *  *",
    "date  sun * *", "(not\tall)", "(not\nall)", "all\n", "\nall", "(not all)\n", "(not all)\t", "each\t3 from 1",
    # A blank that is missing.
    "(notall)", "(allandall)", "(all andall)", "(not(not all))", "((not all)and all)", "(all and(not all))",
    "each3 from 1", "each 3from 1", "(3later all)", "(all)and(all)",
    # Brackets that are missing, too many, or at another place.
    "(all)", "((all))", "not all", "all and all", "(not all", "not all)", "(not all))", "((not all)", "((not all))",
    "(all and all", "all and all)", "(all) and all", "((all and all))", "(all and all) and all",
    "(all and all and all)", "3 later all", "(3 later all", "2 of all from all", "every 2 of all from 3",
    "(each 3 from 1)", "(date sun * *)", "(none)", ")all(", "(not )all", "(not all)(not all)", "(not all) (not all)",
    "all)", "(all", "(not (all))", "[not all]",
    # Words that are missing or too many.
    "(not)", "(not all all)", "(not not all)", "(and all)", "(all and)", "(all all)", "(and)", "(all and and all)",
    "(all xor all)", "(all And all)", "(all from all)", "(all later all)", "(all of all)", "all all", "all none",
    "(or all all)",
    # each.
    "each 3", "each from 1", "each 3 from", "each 3 1", "each 3 to 1", "each x from 1", "each 3 from x",
    "each * from 1", "each 3 from *", "each 3 from 1 from 2", "each 3 from 1 each 3 from 1", "each 3 From 1",
    "all each 3 from 1",
    # date.
    "date sun", "date sun *", "date * *", "date sun 1", "date sun 1 1 1", "date sun x 1", "date sun 1 x",
    "date sun ** *", "date sun 1 1 each", "date sun 1 1 each 3", "date sun 1 1 each 3 from",
    "date sun 1 1 each 3 from x", "date sun 1 1 from 1", "date sun 1 1 each 2 from 1 each 2 from 1", "date Sun 1 1",
    "date sUn 1 1", "date sun1 1 1", "date ninelette 1 1", "date 1 1 1", "date (sun) 1 1", "date sun, 1 1",
    "date sun-a 1 1", "date sun_ 1 1", "date sun/1/1", "date sun *1 1", "Date sun 1 1",
    # later.
    "(later all)", "(3 later)", "(3 all)", "(3 4 later all)", "(3 later all all)", "(all 3 later)", "(x later all)",
    "(* later all)", "(3 sooner all)", "(3 later 3)", "(3 Later all)", "(3)", "(3 and all)",
    # of .. from ..
    "(2 of all)", "(2 of all from)", "(of all from all)", "(2 of from all)", "(2 of all from 3)", "(2 of all all)",
    "(2 all from all)", "(2 of all from all from all)", "(x of all from all)", "(2 of each 3 from all)",
    "(2 from all of all)", "(2 of all from all all)", "(2 in all from all)", "(2 and all from all)",
    "(2 later all from all)", "(2 Of all from all)",
    # every.
    "(every all from 3)", "(every 2 all from 3)", "(every 2 of all)", "(every 2 of all from)",
    "(every 2 of all from all)", "(every of all from 3)", "(every 2 of from 3)", "(every x of all from 3)",
    "(every 2 of all from x)", "(every 2 of all from 3 4)", "(every 2 of each 3 from 4)", "(Every 2 of all from 3)",
    # Numbers.
    "each 03 from 1", "each 3 from 01", "each 3 from -0", "each +3 from 1", "each 3 from +1", "each -0 from 1",
    "each 3. from 1", "each 00 from 1", "each 3 from --1", "each 1_0 from 1", "each 3 from - 1", "each 3 from -",
    "date sun 01 1", "date sun 1 01", "date sun +1 1", "date sun 1 -0", "(03 later all)", "(+3 later all)",
    "(-0 later all)", "(- later all)", "(01 of all from all)", "(every 02 of all from 3)", "(every 2 of all from 03)",
    "(every 2 of all from +3)", f"each {SIXTY + 1} from 1", f"each 3 from {SIXTY + 1}", f"each 3 from -{SIXTY + 1}",
    f"({SIXTY + 1} later all)", f"date sun {SIXTY + 1} 1", f"date sun 1 -{SIXTY + 1}",
    f"(-{SIXTY + 1} of all from all)", f"(every {SIXTY + 1} of all from 3)", f"(every 2 of all from -{SIXTY + 1})",
]


def nested(brackets, inner="all"):
    return "(not " * brackets + inner + ")" * brackets


def of_signs(signs):
    """A rule's text of just so many signs, with brackets not deep within one another."""
    row = ["all"] * 256
    while len(row) > 1:
        row = [f"({one} or {other})" for one, other in zip(row[::2], row[1::2])]
    text = row[0]
    while len(text) + 30 < signs:
        text = text.replace("all", "each 3 from 1", 1)
    number = "1" * (signs - len(text) - len("( later )"))
    return f"({number} later {text})"


class RuleTextCase(unittest.TestCase):
    def assert_refused(self, refusal, text, calendars=None):
        with self.subTest(refusal=refusal.__name__, text=text[:100]):
            with self.assertRaises(refusal) as taken:
                read_rule(text, NAMED if calendars is None else calendars)
            return taken.exception

    def assert_no_name(self, name, text, calendars=None):
        self.assertEqual(self.assert_refused(NoName, text, calendars).name, name)

    def assert_too_long(self, needed, text):
        self.assertEqual(self.assert_refused(TooLong, text).needed, needed)

    def assert_again(self, rule, calendars):
        """What is shown of a rule is read as a rule of the same days, size, parts and text."""
        text = rule.shown()
        with self.subTest(text=text[:100]):
            again = read_rule(text, calendars)
            self.assertEqual(again.turn(), rule.turn())
            self.assertEqual(again.size(), rule.size())
            self.assertEqual([type(part) for part in again.parts()], [type(part) for part in rule.parts()])
            self.assertEqual(again.shown(), text)


class Read(RuleTextCase):
    def test_names_and_arguments(self):
        self.assertEqual(list(inspect.signature(rule_texts.read_rule).parameters), ["text", "calendars"])

    def test_the_text_of_each_kind(self):
        one = ("each", 3, 1)
        trees = [("all",), ("none",), one, ("date", "sun", None, None, 1, 0), ("date", "sun", 1, -2, 1, 0),
                 ("date", "sun", 3, None, 4, 3), ("date", "moon", None, 2, 2, 1), ("not", one), ("later", -5, one),
                 ("of", 2, ("all",), one), ("of", -1, one, ("each", 5, 0)), ("every", 2, one, 7), ("every", 1, one, -7)]
        for word in ("and", "or", "but", "unlike", "upon", "until", "near", "till"):
            trees.append((word, one, ("each", 4, 0)))
        for tree in trees:
            with self.subTest(tree=tree):
                rule = read_rule(shown(tree), NAMED)
                self.assertIs(type(rule), type(built(tree)))
                self.assertEqual(rule.turn(), walked(tree))
                self.assertEqual(rule.shown(), shown(tree))

    def test_rules_within_rules(self):
        for tree in some_trees(31, 300, 4, 200):
            with self.subTest(tree=tree):
                rule = read_rule(shown(tree), CALENDARS)
                self.assertEqual(rule.turn(), walked(tree))
                self.assertEqual(rule.shown(), shown(tree))
                self.assertEqual(len(rule.parts()), count_of(tree))

    def test_each_from_any_rest(self):
        for rest in (0, 1, 3, 4, -1, -100, 1000, SIXTY, -SIXTY):
            rule = read_rule(f"each 4 from {rest}", {})
            self.assertEqual(rule.turn(), (4, 1 << rest % 4))
            self.assertEqual(rule.shown(), f"each 4 from {rest % 4}")
            rule = read_rule(f"date sun 1 1 each 4 from {rest}", NAMED)
            self.assertEqual(rule.turn(), Dated("sun", CALENDARS["sun"], 1, 1, 4, rest).turn())
            self.assertEqual(rule.shown(), f"date sun 1 1 each 4 from {rest % 4}")

    def test_each_one_behind_a_date(self):
        for text, again in (("date sun 1 1 each 1 from 0", "date sun 1 1"),
                            ("date all * * each 1 from -7", "date all * *"),
                            ("(not date sun * -1 each 1 from 5)", "(not date sun * -1)")):
            rule = read_rule(text, NAMED)
            self.assertEqual(rule.turn(), read_rule(again, NAMED).turn())
            self.assertEqual(rule.shown(), again)

    def test_each_behind_a_date_is_the_date_s(self):
        rule = read_rule("(2 of date sun * * each 2 from 1 from each 9 from 1)", NAMED)
        self.assertEqual(len(rule.parts()), 3)
        rule = read_rule("(every 2 of date sun 1 1 each 2 from 1 from 3)", NAMED)
        self.assertEqual(len(rule.parts()), 2)

    def test_names_that_are_words_of_rules(self):
        words = ["all", "none", "each", "date", "not", "and", "or", "but", "unlike", "later", "upon", "until", "near",
                 "till", "of", "from", "every", "a", "abcdefgh"]
        calendars = {word: Sun(place, [3, 4]) for place, word in enumerate(words)}
        for place, word in enumerate(words):
            for text in (f"date {word} 1 1", f"(date {word} 1 1 and all)",
                         f"(1 of date {word} 1 1 from date {word} 1 1)"):
                with self.subTest(text):
                    self.assertEqual(least(read_rule(text, calendars).turn()), (7, 1 << place % 7))

    def test_a_month_and_a_day_of_any_kind(self):
        for month in (None, 1, 3, SIXTY):
            for day in (None, 1, -1, SIXTY, -SIXTY):
                rule = Dated("sun", CALENDARS["sun"], month, day)
                self.assertEqual(read_rule(rule.shown(), NAMED).turn(), rule.turn())

    def test_numbers_of_sixty_figures(self):
        for rule in (Later(SIXTY, Each(7, 0)), Later(-SIXTY, Each(7, 0)), Kth(-SIXTY, Each(2, 0), Each(7, 0)),
                     Every(2, Each(7, 0), -SIXTY), Every(2, Each(7, 0), SIXTY)):
            self.assert_again(rule, {})

    def test_the_dict_stays_as_it_was(self):
        calendars = {"sun": CALENDARS["sun"], "x": CALENDARS["all"]}
        rule = read_rule("(date sun 1 1 or date x 1 1)", calendars)
        self.assertEqual(list(calendars), ["sun", "x"])
        turn = rule.turn()
        calendars["sun"] = calendars["x"]
        calendars.clear()
        self.assertEqual(rule.turn(), turn)


class Form(RuleTextCase):
    def test_texts_of_another_form(self):
        for text in NO_FORM:
            self.assert_refused(NoRule, text)

    def test_what_is_no_text(self):
        for given in NO_TEXTS:
            with self.assertRaises(NoRule):
                read_rule(given, NAMED)

    def test_brackets_within_one_another(self):
        self.assertEqual(read_rule(nested(40), {}).turn(), (1, 1))
        self.assertEqual(len(read_rule(nested(40), {}).parts()), 41)
        self.assert_refused(NoRule, nested(41))
        self.assert_refused(NoRule, nested(500))
        for text in ("(all and " * 40 + "none" + ")" * 40, "(1 later " * 40 + "none" + ")" * 40,
                     "(every 1 of " * 40 + "none" + " from 0)" * 40, "(1 of " * 40 + "none" + " from all)" * 40,
                     "(" * 40 + "none" + " till all)" * 40):
            self.assertEqual(read_rule(text, {}).shown(), text)
        for text in ("(all and " * 41 + "none" + ")" * 41, "(" * 41 + "none" + " till all)" * 41,
                     "(every 1 of " * 41 + "none" + " from 0)" * 41):
            self.assert_refused(NoRule, text)

    def test_brackets_side_by_side_are_not_deeper(self):
        text = f"({nested(39)} and {nested(39)})"
        self.assertEqual(read_rule(text, {}).shown(), text)
        self.assert_refused(NoRule, f"({nested(39)} and {nested(40)})")
        self.assert_refused(NoRule, f"({nested(40)} and {nested(39)})")

    def test_brackets_alone(self):
        for text in ("(" * 4000, ")" * 4000, "(" * 40, "(" * 41 + "all", "() " * 100):
            self.assert_refused(NoRule, text)

    def test_four_thousand_signs(self):
        text = of_signs(4000)
        self.assertEqual(len(text), 4000)
        self.assertEqual(read_rule(text, {}).shown(), text)
        text = of_signs(4001)
        self.assertEqual(len(text), 4001)
        self.assert_refused(NoRule, text)
        self.assert_refused(NoRule, "each 0 from " + "1" * 4000)
        self.assert_refused(NoRule, "all " * 10 ** 6)


class Refusals(RuleTextCase):
    def test_of_each_kind(self):
        for text in ("each 0 from 1", "each -3 from 1", f"each -{SIXTY} from 0", "date new 0 1", "date new -1 *",
                     "date new * 0", "date new 1 1 each 0 from 0", "date new 1 1 each -1 from 0", "(0 of all from all)",
                     "(every 0 of all from 3)", "(every -1 of all from 3)"):
            self.assert_refused(NoNumber, text)
        for text in ("date change 1 1", "date change * * each 5 from 1"):
            self.assert_refused(NoCycle, text)
        self.assert_too_long(LONGEST + 1, f"each {LONGEST + 1} from 1")
        self.assert_too_long(SIXTY, f"each {SIXTY} from 1")
        self.assert_too_long(146097 * 3, "date new 1 1 each 3 from 0")
        self.assert_too_long(LONGEST + 2, "(every 2 of each 75001 from 1 from 0)")
        for word in ("and", "or", "but", "unlike", "upon", "until", "near", "till"):
            self.assert_too_long(LONGEST + 2, f"(each 75001 from 0 {word} each 2 from 0)")
        self.assert_too_long(LONGEST + 2, "(1 of each 75001 from 0 from each 2 from 0)")

    def test_no_such_name(self):
        for text in ("date star 1 1", "(not date star * *)", "(all and date star 1 1 each 2 from 0)"):
            self.assert_no_name("star", text)
        self.assert_no_name("sun", "date sun * *", {})

    def test_no_name_ahead_of_the_other_refusals_of_the_date(self):
        for text in ("date star 0 1", "date star 1 0", "date star 1 1 each 0 from 0",
                     f"date star 1 1 each {SIXTY} from 0", "date star 0 0 each -1 from 0"):
            self.assert_no_name("star", text)

    def test_the_form_ahead_of_all_others(self):
        for text in ("(each 0 from 1 and", "(date star 1 1 and x)", "(each 0 from 1 and all) ",
                     "(date star 0 0 or  all)",
                     "date star 1 1 each 03 from 0", "(0 of all from all", "(each 0 from 0 and date sun1 1 1)",
                     "(every 0 of each 0 from 0 from x)", "each 0 from 1 ", nested(41, "each 0 from 1"),
                     nested(41, "date star 1 1"), f"(each 0 from 0 or each 3 from {SIXTY + 1})",
                     "(each 0 from 1 or " + of_signs(3990) + ")"):
            self.assert_refused(NoRule, text)

    def test_the_first_part_ahead_of_the_second(self):
        for word in ("and", "or", "but", "unlike", "upon", "until", "near", "till"):
            self.assert_no_name("star", f"(date star 1 1 {word} each 0 from 1)")
            self.assert_refused(NoNumber, f"(each 0 from 1 {word} date star 1 1)")
            self.assert_refused(NoCycle, f"(date change 1 1 {word} each 0 from 1)")
            self.assert_too_long(LONGEST + 1, f"(each 150001 from 1 {word} each 0 from 1)")
        self.assert_no_name("star", "(1 of date star 1 1 from date moan 1 1)")
        self.assert_no_name("moan", "(1 of date moan 1 1 from date star 1 1)")
        self.assert_no_name("star", "((not (3 later date star 1 1)) and each 0 from 1)")

    def test_the_parts_ahead_of_the_rule(self):
        self.assert_no_name("star", "(0 of all from date star 1 1)")
        self.assert_no_name("star", "(0 of date star 1 1 from all)")
        self.assert_no_name("star", "(every 0 of date star 1 1 from 3)")
        self.assert_refused(NoCycle, "(every 0 of date change 1 1 from 3)")
        self.assert_too_long(LONGEST + 1, "(0 of each 150001 from 0 from all)")
        self.assert_too_long(LONGEST + 1, "(every 0 of each 150001 from 0 from 3)")
        self.assert_refused(NoNumber, "(0 of each 75001 from 0 from each 2 from 0)")
        self.assert_refused(NoNumber, "(every -1 of each 75001 from 0 from 3)")

    def test_a_rule_within_ahead_of_what_stands_behind_it(self):
        self.assert_too_long(LONGEST + 2, "((each 75001 from 0 and each 2 from 0) or each 0 from 0)")
        self.assert_refused(NoNumber, "((0 of all from all) or date star 1 1)")
        self.assert_no_name("star", "((date star 1 1 or (0 of all from all)) and each 0 from 0)")


class ShownAndReadAgain(RuleTextCase):
    def test_rules_of_each_kind(self):
        for tree in some_trees(32, 300, 5):
            self.assert_again(built(tree), CALENDARS)

    def test_rules_of_great_calendars(self):
        for rule in (Dated("new", NEW, 2, 29), Dated("old", OLD, None, -1, 8, 3), Not(Dated("new", NEW))):
            self.assert_again(rule, NAMED)

    def test_what_is_put_shorter(self):
        for tree in some_trees(33, 300, 4):
            rule = built(tree)
            again = read_rule(shorter(rule).shown(), CALENDARS)
            self.assertEqual(least(again.turn()), least(rule.turn()))
            self.assertEqual(rule.size() % again.size(), 0)

    def test_deep_rules_put_shorter(self):
        rule = read_rule(nested(40, "each 5 from 0"), {})
        self.assert_again(rule, {})
        self.assertEqual(read_rule(shorter(rule).shown(), {}).shown(), "each 5 from 0")
        rule = read_rule("(1 later " * 39 + "(each 5 from 0 or each 5 from 2)" + ")" * 39, {})
        self.assert_again(rule, {})
        self.assertEqual(least(read_rule(shorter(rule).shown(), {}).turn()), rule.turn())
