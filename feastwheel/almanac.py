"""Almanacs: rows of days running, with their dates and the names of the rules that hold on them."""

from feastwheel.errors import NoNumber, NoText
from feastwheel.numbers import date_text, is_name, read_date, read_number

MOST_ROWS = 400


def widest(words):
    """Tell how wide the widest word is."""
    return max([len(word) for word in words], default=0)


def names_on(rules, day):
    """Tell the names of the rules that hold on a day, parted by commas."""
    return ",".join([pair[0] for pair in rules if pair[1].on(day)])


def almanac(calendar, rules, day, many):
    """Tell the rows of so many days from a day on, for rules told as pairs (name, rule)."""
    if many < 0 or many > MOST_ROWS:
        raise NoNumber("an almanac has 0 to 400 rows")
    days = list(range(day, day + many))
    numbers = [str(number) for number in days]
    dates = [date_text(calendar.date_of(number)) for number in days]
    names = [names_on(rules, number) for number in days]
    width = widest(numbers)
    date_width = widest(dates)
    rows = []
    for place in range(many):
        words = [numbers[place].rjust(width), dates[place].ljust(date_width), names[place]]
        rows.append(" ".join(words).rstrip(" "))
    return rows


def read_names(word):
    """Tell the names of a word, which are parted by commas."""
    names = word.split(",")
    if not all([is_name(name) for name in names]):
        raise NoText("a name has one to eight small letters")
    return names


def read_row(row):
    """Tell the day, the date and the names of a row; refuse what is none."""
    if not isinstance(row, str):
        raise NoText("no row of an almanac")
    words = [word for word in row.split(" ") if word != ""]
    if len(words) != 2 and len(words) != 3:
        raise NoText("a row has a number, a date and perhaps names")
    names = read_names(words[2]) if len(words) == 3 else []
    return (read_number(words[0]), read_date(words[1]), names)


def read_almanac(rows):
    """Tell a tuple (day, date, names) for each row."""
    return [read_row(row) for row in rows]
