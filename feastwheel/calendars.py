"""Calendars: a date (year, month, day) for each day, and back."""

from feastwheel.errors import NoDate, NoMeasure
from feastwheel.measures import Measure, least_length
from feastwheel.remains import divisor

MOST_MONTHS = 20
LONGEST_MONTH = 1000


class Calendar:
    """The base of all calendars; where it is by years, a day and its date are found by them."""

    def date_of(self, day):
        """Tell the date of a day."""
        year = self.year_at(day)
        rest = day - self.year_start(year)
        month = 1
        for length in self.lengths(year):
            if rest < length:
                break
            rest = rest - length
            month = month + 1
        return (year, month, rest + 1)

    def day_of(self, date):
        """Tell the only day with the date; refuse a date that no day has."""
        lengths = self.lengths(date[0])
        if date[1] < 1 or date[1] > len(lengths):
            raise NoDate(date)
        if date[2] < 1 or date[2] > lengths[date[1] - 1]:
            raise NoDate(date)
        return self.year_start(date[0]) + sum(lengths[:date[1] - 1]) + date[2] - 1


def term_text(term):
    """Tell a term as a text."""
    sign = "+" if term[0] == 1 else "-"
    numbers = ",".join([str(number) for number in term[1:]])
    return f"{sign}{numbers}"


def term_words(terms):
    """Tell the texts of terms in their order."""
    return [term_text(term) for term in terms]


def refuse_months(lengths, leap):
    """Refuse lengths of months, and the number of one, that make no sun calendar."""
    if len(lengths) < 1 or len(lengths) > MOST_MONTHS:
        raise NoMeasure("a sun calendar has one to twenty months")
    if min(lengths) < 0 or max(lengths) > LONGEST_MONTH:
        raise NoMeasure("a month has 0 to 1000 days")
    if leap < 1 or leap > len(lengths):
        raise NoMeasure("there is no month of this number")


class Sun(Calendar):
    """A calendar of years with the same months, one of which gets the days of the terms."""

    def __init__(self, start, lengths, leap=1, terms=None):
        refuse_months(lengths, leap)
        self.start = start
        self.months = tuple(lengths)
        self.leap = leap
        self.years = Measure(sum(lengths), terms)
        if least_length(lengths[leap - 1], self.years.terms) < 0:
            raise NoMeasure("a month could have fewer days than none")
        if least_length(self.years.base, self.years.terms) < 1:
            raise NoMeasure("a year could be without days")

    def year_start(self, year):
        """Tell the day on which a year begins."""
        return self.start + self.years.upto(year)

    def year_at(self, day):
        """Tell the year in which a day lies."""
        return self.years.seek(day - self.start)

    def lengths(self, year):
        """Tell the lengths of a year's months in their order."""
        told = list(self.months)
        told[self.leap - 1] = told[self.leap - 1] + self.years.at(year) - self.years.base
        return told

    def cycle(self):
        """Tell (years, days) after which all comes again."""
        years = self.years.period()
        return (years, self.years.upto(years))

    def shown(self):
        """Tell the calendar as a text."""
        words = ["sun", str(self.start), ",".join([str(length) for length in self.months])]
        if len(self.years.terms) > 0:
            words = words + ["leap", str(self.leap)] + term_words(self.years.terms)
        return " ".join(words)


def refuse_part(measure, greatest):
    """Refuse a measure of a moon calendar that could fall below 1 or whose base is too great."""
    if least_length(measure.base, measure.terms) < 1:
        raise NoMeasure("a month or a year could be without days")
    if measure.base > greatest:
        raise NoMeasure("a base is too great")


class Moon(Calendar):
    """A calendar whose months are numbered and measured through all years."""

    def __init__(self, start, days, many):
        refuse_part(days, LONGEST_MONTH)
        refuse_part(many, MOST_MONTHS)
        self.start = start
        self.days = days
        self.many = many

    def year_start(self, year):
        """Tell the day on which a year begins."""
        return self.start + self.days.upto(self.many.upto(year))

    def year_at(self, day):
        """Tell the year in which a day lies."""
        return self.many.seek(self.days.seek(day - self.start))

    def lengths(self, year):
        """Tell the lengths of a year's months in their order."""
        first = self.many.upto(year)
        return [self.days.at(first + place) for place in range(self.many.at(year))]

    def cycle(self):
        """Tell (years, days) after which all comes again."""
        years = self.many.period()
        months = self.many.upto(years)
        # So many times these years have whole periods of the measure of days.
        times = self.days.period() // divisor(self.days.period(), months)
        return (years * times, self.days.upto(months * times))

    def shown(self):
        """Tell the calendar as a text."""
        days = [str(self.days.base)] + term_words(self.days.terms)
        many = [str(self.many.base)] + term_words(self.many.terms)
        return " ".join(["moon", str(self.start)] + days + ["/"] + many)
