"""The desk: keeps calendars and rules by names, and answers rows of text."""

from feastwheel.almanac import almanac
from feastwheel.asks import how_many, last_day, next_day, nth_day
from feastwheel.calendar_texts import read_calendar
from feastwheel.changes import Change, moved
from feastwheel.errors import NoName, NoRow
from feastwheel.numbers import date_text, is_name, read_date, read_number
from feastwheel.papers import meeting, same, within
from feastwheel.rounds import least
from feastwheel.rule_texts import read_rule
from feastwheel.shorter import shorter

# What stands behind each first word. The row of an almanac has names of rules behind these.
FORMS = {
    "calendar": ("NAME", "TEXT"),
    "change": ("NAME", "CALENDAR", "CALENDAR", "NUMBER"),
    "rule": ("NAME", "TEXT"),
    "date": ("CALENDAR", "NUMBER"),
    "day": ("CALENDAR", "DATE"),
    "move": ("CALENDAR", "CALENDAR", "DATE"),
    "on": ("RULE", "NUMBER"),
    "next": ("RULE", "NUMBER"),
    "last": ("RULE", "NUMBER"),
    "nth": ("RULE", "NUMBER", "NUMBER"),
    "count": ("RULE", "NUMBER", "NUMBER"),
    "size": ("RULE",),
    "same": ("RULE", "RULE", "NUMBER"),
    "meet": ("RULE", "RULE", "NUMBER"),
    "within": ("RULE", "RULE", "NUMBER"),
    "shorter": ("RULE",),
    "show": ("RULE",),
    "almanac": ("CALENDAR", "NUMBER", "NUMBER"),
}


def tell_date(given):
    """Answer the date of a day."""
    return date_text(given[0].date_of(given[1]))


def tell_day(given):
    """Answer the day of a date."""
    return str(given[0].day_of(given[1]))


def tell_move(given):
    """Answer a date in another calendar."""
    return date_text(moved(given[2], given[0], given[1]))


def tell_on(given):
    """Answer whether a rule holds on a day."""
    return "yes" if given[0].on(given[1]) else "no"


def day_or_never(day):
    """Tell a day as a text, or that there is none."""
    return "never" if day is None else str(day)


def tell_next(given):
    """Answer the first day from a day on on which a rule holds."""
    return day_or_never(next_day(given[0].turn(), given[1]))


def tell_last(given):
    """Answer the last day up to a day on which a rule holds."""
    return day_or_never(last_day(given[0].turn(), given[1]))


def tell_nth(given):
    """Answer the so-many-th day from a day on on which a rule holds."""
    return day_or_never(nth_day(given[0].turn(), given[1], given[2]))


def tell_count(given):
    """Answer on how many days a rule holds."""
    return str(how_many(given[0].turn(), given[1], given[2]))


def tell_size(given):
    """Answer the size of a rule's least round."""
    return str(least(given[0].turn())[0])


def tell_same(given):
    """Answer whether two rules hold on the same days for ever."""
    paper = same(given[0].turn(), given[1].turn(), given[2])
    if paper[0] == "same":
        size = paper[1][0]
        return f"same {size}"
    return paper_text(paper)


def paper_text(paper):
    """Tell the word of a paper and the number behind it."""
    word = paper[0]
    number = paper[1]
    return f"{word} {number}"


def tell_meet(given):
    """Answer whether two rules ever hold on one day."""
    return paper_text(meeting(given[0].turn(), given[1].turn(), given[2]))


def tell_within(given):
    """Answer whether a rule holds on no day but another one's."""
    return paper_text(within(given[0].turn(), given[1].turn(), given[2]))


def tell_shorter(given):
    """Answer the text of a rule put shorter."""
    return shorter(given[0]).shown()


def tell_show(given):
    """Answer the text of a rule."""
    return given[0].shown()


def tell_almanac(given):
    """Answer the rows of an almanac."""
    return "\n".join(almanac(given[0], given[3:], given[1], given[2]))


# What answers each row that asks. None of these knows the desk, so none can change it.
ANSWERS = {
    "date": tell_date,
    "day": tell_day,
    "move": tell_move,
    "on": tell_on,
    "next": tell_next,
    "last": tell_last,
    "nth": tell_nth,
    "count": tell_count,
    "size": tell_size,
    "same": tell_same,
    "meet": tell_meet,
    "within": tell_within,
    "shorter": tell_shorter,
    "show": tell_show,
    "almanac": tell_almanac,
}


def words_of_row(row):
    """Tell the words of a row, a text at its end as one word; refuse what is no row."""
    if not isinstance(row, str):
        raise NoRow("no text")
    words = row.split(" ")
    if words[0] not in FORMS:
        raise NoRow("no row begins so")
    form = FORMS[words[0]]
    if form[-1] == "TEXT":
        words = row.split(" ", len(form))
    wanted = len(form) + 1
    if len(words) < wanted or (len(words) > wanted and words[0] != "almanac"):
        raise NoRow("a row has just as many words as its first one asks for")
    return words


def kept_by(kept, name):
    """Tell what is kept by a name; refuse a name by which nothing is."""
    if name not in kept:
        raise NoName(name)
    return kept[name]


def looked_up(desk, kind, word):
    """Tell what a word of a row stands for; refuse a word that stands for nothing of its kind."""
    if kind == "NAME" and not is_name(word):
        raise NoName(word)
    if kind == "CALENDAR":
        return kept_by(desk.calendars, word)
    if kind == "RULE":
        return kept_by(desk.rules, word)
    if kind == "NUMBER":
        return read_number(word)
    if kind == "DATE":
        return read_date(word)
    return word


def named_rules(desk, names):
    """Tell the rules that are kept by names as pairs (name, rule)."""
    return [(name, kept_by(desk.rules, name)) for name in names]


def keep(desk, word, given):
    """Keep what a row tells by the name in it."""
    name = given[0]
    if word == "calendar":
        desk.calendars[name] = read_calendar(given[1])
    elif word == "change":
        desk.calendars[name] = Change(given[1], given[2], given[3])
    else:
        desk.rules[name] = read_rule(given[1], desk.calendars)
    return "ok"


class Desk:
    """Calendars and rules by their names, and the answers to rows of text."""

    def __init__(self):
        self.calendars = {}
        self.rules = {}

    def say(self, row):
        """Answer a row; what is refused changes nothing."""
        words = words_of_row(row)
        form = FORMS[words[0]]
        given = [looked_up(self, kind, word) for kind, word in zip(form, words[1:])]
        # Only behind the form of an almanac's row are there words left.
        given.extend(named_rules(self, words[len(form) + 1:]))
        if words[0] in ANSWERS:
            return ANSWERS[words[0]](given)
        return keep(self, words[0], given)
