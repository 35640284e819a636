"""Changes of calendars: one calendar ahead of a day, another one from it on."""

from feastwheel.calendars import Calendar
from feastwheel.errors import InGap, NoChange, NoCycle


class Change(Calendar):
    """The dates of an old calendar ahead of a day, those of a new one from this day on."""

    def __init__(self, old, new, day):
        self.old = old
        self.new = new
        self.day = day
        self.last_old = old.date_of(day - 1)
        self.first_new = new.date_of(day)
        if self.first_new <= self.last_old:
            raise NoChange("the date of the day of the change is not later than the one ahead of it")

    def date_of(self, day):
        """Tell the date of a day."""
        if day < self.day:
            return self.old.date_of(day)
        return self.new.date_of(day)

    def day_of(self, date):
        """Tell the only day with the date; refuse a date that is left out or that no day has."""
        if date <= self.last_old:
            return self.old.day_of(date)
        if date >= self.first_new:
            return self.new.day_of(date)
        raise InGap(date, self.day)

    def cycle(self):
        """Refuse: a change doesn't come again."""
        raise NoCycle("a change has no cycle")


def moved(date, one, other):
    """Tell the date in the other calendar of the day that has the date in the first one."""
    return other.date_of(one.day_of(date))
