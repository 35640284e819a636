"""Days by date: the round of all days whose dates have a month and a day."""

from feastwheel.errors import NoNumber
from feastwheel.remains import common, refuse_below_one
from feastwheel.rounds import refuse_too_long, round_by


def refuse_wanted(month, day, step):
    """Refuse what no month, day or step can be."""
    if month is not None:
        refuse_below_one(month)
    if day == 0:
        raise NoNumber("days are counted from 1 on or from -1 back")
    refuse_below_one(step)


def days_of_month(first, length, day):
    """Tell the wanted days of a month that begins on a first day."""
    if day is None:
        return list(range(first, first + length))
    place = day - 1 if day > 0 else length + day
    if place < 0 or place >= length:
        return []
    return [first + place]


def days_of_year(calendar, year, month, day):
    """Tell the wanted days of a year."""
    told = []
    first = calendar.year_start(year)
    number = 1
    for length in calendar.lengths(year):
        if month is None or month == number:
            told.extend(days_of_month(first, length, day))
        first = first + length
        number = number + 1
    return told


def dated(calendar, month=None, day=None, step=1, rest=0):
    """Tell the round of the days with this month and day in the years alike to rest by step."""
    refuse_wanted(month, day, step)
    cycle = calendar.cycle()
    years = common(cycle[0], step)
    size = years // cycle[0] * cycle[1]
    refuse_too_long(size)
    days = []
    for year in range(rest % step, years, step):
        days.extend(days_of_year(calendar, year, month, day))
    return round_by(size, days)
