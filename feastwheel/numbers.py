"""Numbers, dates and names as texts."""

from feastwheel.errors import NoText

FIGURES = "0123456789"
MOST_FIGURES = 60
LETTERS = "abcdefghijklmnopqrstuvwxyz"
MOST_LETTERS = 8
MOST_SIGNS = 4000


def is_name(text):
    """Tell whether a text is a name."""
    return 1 <= len(text) <= MOST_LETTERS and all([sign in LETTERS for sign in text])


def is_readable(text):
    """Tell whether this is a text, and no longer than that of a calendar or a rule may be."""
    return isinstance(text, str) and len(text) <= MOST_SIGNS


def is_number(text):
    """Tell whether a text is a number as a text."""
    figures = text[1:] if text.startswith("-") else text
    if len(figures) < 1 or len(figures) > MOST_FIGURES:
        return False
    if figures[0] == "0":
        return text == "0"
    return all([sign in FIGURES for sign in figures])


def read_number(text):
    """Tell the whole number of a text; refuse what is none."""
    if not isinstance(text, str) or not is_number(text):
        raise NoText("no number as a text")
    return int(text)


def read_place(text):
    """Tell the month or the day of a date's text; refuse what is none."""
    if len(text) == 2 and text[0] == "0":
        number = read_number(text[1])
        least = 1
    else:
        number = read_number(text)
        least = 10
    if number < least:
        raise NoText("no month or day as a text")
    return number


def read_date(text):
    """Tell the date of a text YEAR/MM/DD; refuse what is none."""
    if not isinstance(text, str):
        raise NoText("no text")
    words = text.split("/")
    if len(words) != 3:
        raise NoText("no date as a text")
    return (read_number(words[0]), read_place(words[1]), read_place(words[2]))


def place_text(number):
    """Tell a month or a day as a text, one figure with a 0 ahead."""
    return str(number).zfill(2)


def date_text(date):
    """Tell a date as a text."""
    year = date[0]
    month = place_text(date[1])
    day = place_text(date[2])
    return f"{year}/{month}/{day}"
