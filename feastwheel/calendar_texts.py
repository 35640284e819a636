"""Calendars read from texts."""

from feastwheel.calendars import Moon, Sun
from feastwheel.errors import NoText
from feastwheel.measures import Measure
from feastwheel.numbers import is_readable, read_number


def read_numbers(word):
    """Tell the numbers of a word, which are parted by commas."""
    return [read_number(number) for number in word.split(",")]


def read_term(word):
    """Tell the term of a word, whether a measure may have it or not."""
    if word[:1] != "+" and word[:1] != "-":
        raise NoText("a term begins with its sign")
    numbers = read_numbers(word[1:])
    if len(numbers) != 3:
        raise NoText("behind its sign a term has three numbers")
    sign = 1 if word[0] == "+" else -1
    return (sign, numbers[0], numbers[1], numbers[2])


def read_terms(words):
    """Tell the terms of words in their order."""
    return [read_term(word) for word in words]


def read_sun(words):
    """Tell the sun calendar of the words behind the first one."""
    if len(words) < 2:
        raise NoText("a sun calendar has a start and lengths")
    start = read_number(words[0])
    lengths = read_numbers(words[1])
    if len(words) == 2:
        return Sun(start, lengths)
    if words[2] != "leap" or len(words) < 5:
        raise NoText("behind its lengths a sun calendar has the word leap, a month and terms")
    leap = read_number(words[3])
    return Sun(start, lengths, leap, read_terms(words[4:]))


def read_moon(words):
    """Tell the moon calendar of the words behind the first one."""
    if words.count("/") != 1:
        raise NoText("a moon calendar has one / between its measures")
    place = words.index("/")
    days = words[1:place]
    many = words[place + 1:]
    if len(days) < 1 or len(many) < 1:
        raise NoText("a moon calendar has a start and two measures")
    start = read_number(words[0])
    days_base = read_number(days[0])
    days_terms = read_terms(days[1:])
    many_base = read_number(many[0])
    many_terms = read_terms(many[1:])
    # Only here is the whole text known to be of the form, so no measure is made any sooner.
    return Moon(start, Measure(days_base, days_terms), Measure(many_base, many_terms))


def read_calendar(text):
    """Tell the calendar of a text; refuse what is none."""
    if not is_readable(text):
        raise NoText("no calendar as a text")
    words = text.split(" ")
    if words[0] == "sun":
        return read_sun(words[1:])
    if words[0] == "moon":
        return read_moon(words[1:])
    raise NoText("a calendar's text begins with sun or moon")
